/- Lists of wishes, deferred acceptance: states, stable matchings, the best one. Arithmetic and lists alone. -/
namespace Go.Proofs.Ytomnnickiljkgaa

/-- How far down a list something stands: behind all that is in it to be without, behind that what is not in it. -/
def scoreQ (l : List Int) (x : Int) : Nat := if x ∈ l then l.idxOf x else if x = -1 then l.length else l.length + 1
/-- A list of wishes: nothing but things, none twice. -/
def listedQ (n : Nat) (l : List Int) : Bool := decide l.Nodup && l.all (fun x => decide (0 ≤ x ∧ x < n))
theorem listed_iff {n : Nat} {l : List Int} : listedQ n l = true ↔ l.Nodup ∧ ∀ x ∈ l, 0 ≤ x ∧ x < n := by
  unfold listedQ
  simp [List.all_eq_true]
theorem idxOf_mem {l : List Int} {x : Int} (h : x ∈ l) : l[l.idxOf x]? = some x := by
  have h1 := List.idxOf_lt_length_of_mem h
  rw [List.getElem?_eq_getElem h1]
  simp [List.getElem_idxOf]
theorem score_mem {l : List Int} {x : Int} (h : x ∈ l) : scoreQ l x = l.idxOf x ∧ scoreQ l x < l.length := by
  unfold scoreQ
  rw [if_pos h]
  exact ⟨rfl, List.idxOf_lt_length_of_mem h⟩
theorem score_lt {l : List Int} {x : Int} : scoreQ l x < l.length ↔ x ∈ l := by
  constructor
  · intro h
    unfold scoreQ at h
    by_cases hx : x ∈ l
    · exact hx
    · rw [if_neg hx] at h
      split at h <;> omega
  · exact fun h => (score_mem h).2
theorem score_none {l : List Int} (h : (-1 : Int) ∉ l) : scoreQ l (-1) = l.length := by
  unfold scoreQ
  rw [if_neg h, if_pos rfl]
theorem score_le_none {l : List Int} {x : Int} (h : scoreQ l x ≤ l.length) : x ∈ l ∨ x = -1 := by
  unfold scoreQ at h
  by_cases hx : x ∈ l
  · exact Or.inl hx
  · rw [if_neg hx] at h
    by_cases h1 : x = -1
    · exact Or.inr h1
    · rw [if_neg h1] at h; omega
theorem listed_none {n : Nat} {l : List Int} (h : listedQ n l = true) : (-1 : Int) ∉ l := fun hm => by
  have := ((listed_iff.1 h).2 _ hm).1
  omega
/-- What stands at a place has that place for its score. -/
theorem score_at {l : List Int} (hn : l.Nodup) {i : Nat} {x : Int} (h : l[i]? = some x) : scoreQ l x = i := by
  have hm := List.mem_of_getElem? h
  rw [(score_mem hm).1]
  obtain ⟨hi, he⟩ := List.getElem?_eq_some_iff.1 h
  have := List.Nodup.idxOf_getElem hn i hi
  rw [he] at this
  exact this
theorem score_get {l : List Int} {x : Int} (h : x ∈ l) : l[scoreQ l x]? = some x := by
  rw [(score_mem h).1]; exact idxOf_mem h
theorem score_inj {l : List Int} {x y : Int} (h : x ∈ l) (he : scoreQ l y = scoreQ l x) : y = x := by
  have hy : y ∈ l := score_lt.1 (by rw [he]; exact score_lt.2 h)
  have h1 := score_get h
  have h2 := score_get hy
  rw [he, h1] at h2
  exact (Option.some.inj h2).symm

/-- The list of number i. -/
def nthL (L : List (List Int)) (i : Nat) : List Int := (L[i]?).getD []
/-- The list of somebody. -/
def atL (L : List (List Int)) (x : Int) : List Int := nthL L x.toNat
theorem atL_nat (L : List (List Int)) (i : Nat) : atL L (i : Int) = nthL L i := rfl
theorem nthL_some {L : List (List Int)} {i : Nat} {l : List Int} (h : L[i]? = some l) : nthL L i = l := by unfold nthL; rw [h]; rfl

/-- Two sides' lists are right. -/
def sidesQ (P R : List (List Int)) : Prop := (∀ l ∈ P, listedQ R.length l = true) ∧ ∀ l ∈ R, listedQ P.length l = true
theorem sides_P {P R : List (List Int)} (h : sidesQ P R) (p : Nat) : (nthL P p).Nodup ∧ ∀ x ∈ nthL P p, 0 ≤ x ∧ x < R.length := by
  unfold nthL
  cases hp : P[p]? with
  | none => exact ⟨List.nodup_nil, fun x hx => by simp at hx⟩
  | some l => exact listed_iff.1 (h.1 l (List.mem_of_getElem? hp))
theorem sides_R {P R : List (List Int)} (h : sidesQ P R) (r : Nat) : (nthL R r).Nodup ∧ ∀ x ∈ nthL R r, 0 ≤ x ∧ x < P.length := by
  unfold nthL
  cases hp : R[r]? with
  | none => exact ⟨List.nodup_nil, fun x hx => by simp at hx⟩
  | some l => exact listed_iff.1 (h.2 l (List.mem_of_getElem? hp))
theorem no_none {l : List Int} {n : Nat} (h : ∀ x ∈ l, 0 ≤ x ∧ x < (n : Int)) : (-1 : Int) ∉ l := fun hm => by
  have := (h _ hm).1
  omega
theorem sides_R_atL {P R : List (List Int)} (h : sidesQ P R) (r : Int) : (atL R r).Nodup ∧ ∀ x ∈ atL R r, 0 ≤ x ∧ x < P.length := sides_R h _

/-- A matching: of each proposer its receiver, or -1. It is one where nobody blocks. -/
structure StableF (P R : List (List Int)) (m : Nat → Int) : Prop where
  own : ∀ p, p < P.length → m p = -1 ∨ (m p ∈ nthL P p ∧ (p : Int) ∈ atL R (m p))
  inj : ∀ p q, p < P.length → q < P.length → m p = m q → m p ≠ -1 → p = q
  pair : ∀ p, p < P.length → ∀ r : Int, scoreQ (nthL P p) r < scoreQ (nthL P p) (m p) → (p : Int) ∈ atL R r → ∃ q, q < P.length ∧ m q = r ∧ scoreQ (atL R r) (q : Int) < scoreQ (atL R r) (p : Int)

/-- A state of deferred acceptance: how many each has asked, whom each receiver keeps. -/
structure Inv (P R : List (List Int)) (c : Nat → Nat) (h : Int → Int) : Prop where
  len : ∀ p, c p ≤ (nthL P p).length
  held : ∀ r, h r = -1 ∨ ∃ p : Nat, h r = (p : Int) ∧ p < P.length ∧ 0 < c p ∧ (nthL P p)[c p - 1]? = some r ∧ (p : Int) ∈ atL R r
  asked : ∀ (p i : Nat) (r : Int), p < P.length → i < c p → (nthL P p)[i]? = some r → (p : Int) ∈ atL R r → ∃ q : Nat, h r = (q : Int) ∧ scoreQ (atL R r) (q : Int) ≤ scoreQ (atL R r) (p : Int)
  last : ∀ m, StableF P R m → ∀ (p i : Nat) (r : Int), p < P.length → i < c p → (nthL P p)[i]? = some r → h r ≠ (p : Int) → m p ≠ r

theorem Inv.start (P R : List (List Int)) : Inv P R (fun _ => 0) (fun _ => -1) where
  len := fun _ => Nat.zero_le _
  held := fun _ => Or.inl rfl
  asked := fun _ _ _ _ h => absurd h (Nat.not_lt_zero _)
  last := fun _ _ _ _ _ _ h => absurd h (Nat.not_lt_zero _)

def upC (c : Nat → Nat) (p : Nat) : Nat → Nat := fun q => if q = p then c q + 1 else c q
def upH (h : Int → Int) (r x : Int) : Int → Int := fun s => if s = r then x else h s

theorem upC_self (c : Nat → Nat) (p : Nat) : upC c p p = c p + 1 := by simp [upC]
/-- Nobody keeps p. -/
def FreeQ (h : Int → Int) (p : Nat) : Prop := ∀ r, h r ≠ (p : Int)
/-- Somebody keeps p, or it has asked all. -/
def DoneQ (P : List (List Int)) (c : Nat → Nat) (h : Int → Int) (p : Nat) : Prop := c p = (nthL P p).length ∨ ∃ r, h r = (p : Int)

/-- Who is kept by one is kept by no other. -/
theorem Inv.one {P R : List (List Int)} {c : Nat → Nat} {h : Int → Int} (H : Inv P R c h) {p : Nat} {r s : Int} (hr : h r = (p : Int)) (hs : h s = (p : Int)) : r = s := by
  rcases H.held r with e | ⟨q, e, _, _, e1, _⟩
  · rw [hr] at e; omega
  rcases H.held s with e' | ⟨q', e', _, _, e2, _⟩
  · rw [hs] at e'; omega
  have h1 : q = p := by rw [hr] at e; omega
  have h2 : q' = p := by rw [hs] at e'; omega
  subst h1; subst h2
  rw [e1] at e2
  exact Option.some.inj e2

/-- p asks the next one, which doesn't take it. -/
theorem Inv.reject {P R : List (List Int)} {c : Nat → Nat} {h : Int → Int} (hS : sidesQ P R) (H : Inv P R c h) {p : Nat} {r : Int} (hp : p < P.length) (hf : FreeQ h p) (hr : (nthL P p)[c p]? = some r)
    (hno : ¬ scoreQ (atL R r) (p : Int) < scoreQ (atL R r) (h r)) : Inv P R (upC c p) h := by
  have hc : c p < (nthL P p).length := (List.getElem?_eq_some_iff.1 hr).1
  have hnR := sides_R_atL hS r
  refine ⟨fun q => ?_, fun s => ?_, fun q i s hq hi hs hm => ?_, fun m hm q i s hq hi hs hh => ?_⟩
  · unfold upC; split
    · rename_i e; subst e; omega
    · exact H.len q
  · rcases H.held s with e | ⟨q, e, e1, e2, e3, e4⟩
    · exact Or.inl e
    · refine Or.inr ⟨q, e, e1, ?_⟩
      have hqp : q ≠ p := fun e' => hf s (by rw [e, e'])
      simp only [upC, if_neg hqp]
      exact ⟨e2, e3, e4⟩
  · by_cases hqp : q = p ∧ i = c p
    · obtain ⟨rfl, rfl⟩ := hqp
      rw [hr] at hs; cases hs
      have hlt := score_lt.2 hm
      have hle : scoreQ (atL R r) (h r) < (atL R r).length := by omega
      have hmem := score_lt.1 hle
      have hb := hnR.2 _ hmem
      exact ⟨(h r).toNat, by omega, by rw [show (((h r).toNat : Nat) : Int) = h r by omega]; omega⟩
    · refine H.asked q i s hq ?_ hs hm
      unfold upC at hi
      split at hi
      · rename_i e; subst e
        have : i ≠ c q := fun e => hqp ⟨rfl, e⟩
        omega
      · exact hi
  · by_cases hqp : q = p ∧ i = c p
    · obtain ⟨rfl, rfl⟩ := hqp
      rw [hr] at hs; cases hs
      intro hmp
      have hacc : (q : Int) ∈ atL R r := by
        rcases hm.own q hq with e | ⟨_, e⟩
        · have := (sides_P hS q).2 r (List.mem_of_getElem? hr)
          omega
        · rw [hmp] at e; exact e
      have hlt := score_lt.2 hacc
      have hle : scoreQ (atL R r) (h r) < (atL R r).length := by omega
      have hmem := score_lt.1 hle
      rcases H.held r with e | ⟨p', e, hp', hc', hl', hacc'⟩
      · rw [e] at hmem; exact no_none hnR.2 hmem
      rw [e] at hle hno
      have hpp : p' ≠ q := fun e' => hf r (by rw [e, e'])
      have hstr : scoreQ (atL R r) (p' : Int) < scoreQ (atL R r) (q : Int) := by
        rcases Nat.lt_or_ge (scoreQ (atL R r) (p' : Int)) (scoreQ (atL R r) (q : Int)) with h1 | h1
        · exact h1
        · have := score_inj hacc (show scoreQ (atL R r) (p' : Int) = scoreQ (atL R r) (q : Int) by omega)
          omega
      -- p' would rather have r than what it has
      have hnd := (sides_P hS p').1
      have hscr : scoreQ (nthL P p') r = c p' - 1 := score_at hnd hl'
      have hpr : scoreQ (nthL P p') r < scoreQ (nthL P p') (m p') := by
        rcases Nat.lt_or_ge (scoreQ (nthL P p') r) (scoreQ (nthL P p') (m p')) with h1 | h1
        · exact h1
        exfalso
        have hin : m p' ∈ nthL P p' := score_lt.1 (by have := score_lt.2 (List.mem_of_getElem? hl'); omega)
        have hg := score_get hin
        by_cases hx : m p' = r
        · exact hpp (hm.inj p' q hp' hq (by rw [hx, hmp]) (by
            rw [hx]; intro e0; have := (sides_P hS p').2 r (List.mem_of_getElem? hl'); omega))
        · refine H.last m hm p' _ (m p') hp' ?_ hg ?_ rfl
          · omega
          · intro e0
            exact hx (H.one e0 e)
      obtain ⟨z, hz, hzr, hzs⟩ := hm.pair p' hp' r hpr hacc'
      have : z = q := hm.inj z q hz hq (by rw [hzr, hmp]) (by
        rw [hzr]; intro e0; have := (sides_P hS q).2 r (List.mem_of_getElem? hr); omega)
      subst this
      omega
    · refine H.last m hm q i s hq ?_ hs hh
      unfold upC at hi
      split at hi
      · rename_i e; subst e
        have : i ≠ c q := fun e => hqp ⟨rfl, e⟩
        omega
      · exact hi

/-- p asks the next one, which takes it. -/
theorem Inv.take {P R : List (List Int)} {c : Nat → Nat} {h : Int → Int} (hS : sidesQ P R) (H : Inv P R c h) {p : Nat} {r : Int} (hp : p < P.length) (hf : FreeQ h p) (hr : (nthL P p)[c p]? = some r)
    (hyes : scoreQ (atL R r) (p : Int) < scoreQ (atL R r) (h r)) (hle : scoreQ (atL R r) (h r) ≤ (atL R r).length) : Inv P R (upC c p) (upH h r (p : Int)) := by
  have hc : c p < (nthL P p).length := (List.getElem?_eq_some_iff.1 hr).1
  have hnR := sides_R_atL hS r
  have hpin : (p : Int) ∈ atL R r := score_lt.1 (by omega)
  refine ⟨fun q => ?_, fun s => ?_, fun q i s hq hi hs hm => ?_, fun m hm q i s hq hi hs hh => ?_⟩
  · unfold upC; split
    · rename_i e; subst e; omega
    · exact H.len q
  · by_cases hsr : s = r
    · subst hsr
      refine Or.inr ⟨p, by simp [upH], hp, ?_⟩
      rw [upC_self]
      exact ⟨by omega, by simpa using hr, hpin⟩
    · rcases H.held s with e | ⟨q, e, e1, e2, e3, e4⟩
      · exact Or.inl (by simp [upH, hsr, e])
      · refine Or.inr ⟨q, by simp [upH, hsr, e], e1, ?_⟩
        have hqp : q ≠ p := fun e' => hf s (by rw [e, e'])
        simp only [upC, if_neg hqp]
        exact ⟨e2, e3, e4⟩
  · by_cases hsr : s = r
    · subst hsr
      refine ⟨p, by simp [upH], ?_⟩
      by_cases hqp : q = p
      · subst hqp; omega
      · simp only [upC, if_neg hqp] at hi
        obtain ⟨z, hz, hzs⟩ := H.asked q i s hq hi hs hm
        rw [hz] at hyes
        omega
    · simp only [upH, if_neg hsr]
      refine H.asked q i s hq ?_ hs hm
      by_cases hqp : q = p
      · subst hqp
        rw [upC_self] at hi
        have : i ≠ c q := fun e => by subst e; rw [hr] at hs; exact hsr (Option.some.inj hs).symm
        omega
      · simpa only [upC, if_neg hqp] using hi
  · by_cases hqp : q = p
    · subst hqp
      have hic : i ≠ c q := fun e => by subst e; rw [hr] at hs; cases hs; exact hh (by simp [upH])
      rw [upC_self] at hi
      exact H.last m hm q i s hq (by omega) hs (hf s)
    · simp only [upC, if_neg hqp] at hi
      by_cases hsr : s = r
      · subst hsr
        by_cases hhq : h s = (q : Int)
        · -- q is let go for p
          intro hmq
          rw [hhq] at hyes
          have hnd := (sides_P hS p).1
          have hscr : scoreQ (nthL P p) s = c p := score_at hnd hr
          have hpr : scoreQ (nthL P p) s < scoreQ (nthL P p) (m p) := by
            rcases Nat.lt_or_ge (scoreQ (nthL P p) s) (scoreQ (nthL P p) (m p)) with h1 | h1
            · exact h1
            exfalso
            have hin : m p ∈ nthL P p := score_lt.1 (by have := score_lt.2 (List.mem_of_getElem? hr); omega)
            have hg := score_get hin
            by_cases hx : m p = s
            · exact hqp (hm.inj q p hq hp (by rw [hx, hmq]) (by
                rw [hmq]; intro e0; have := (sides_P hS p).2 s (List.mem_of_getElem? hr); omega))
            · have hne : scoreQ (nthL P p) (m p) ≠ c p := fun e0 => by
                rw [e0, hr] at hg; exact hx (Option.some.inj hg).symm
              exact H.last m hm p _ (m p) hp (by omega) hg (hf _) rfl
          obtain ⟨z, hz, hzr, hzs⟩ := hm.pair p hp s hpr hpin
          have : z = q := hm.inj z q hz hq (by rw [hzr, hmq]) (by
            rw [hzr]; intro e0; have := (sides_P hS p).2 s (List.mem_of_getElem? hr); omega)
          subst this
          omega
        · exact H.last m hm q i s hq hi hs hhq
      · refine H.last m hm q i s hq hi hs ?_
        simpa [upH, hsr] using hh

/-- Whom a receiver keeps is none or stands in its list. -/
theorem Inv.score_le {P R : List (List Int)} {c : Nat → Nat} {h : Int → Int} (hS : sidesQ P R) (H : Inv P R c h) (r : Int) : scoreQ (atL R r) (h r) ≤ (atL R r).length := by
  rcases H.held r with e | ⟨p, e, _, _, _, e4⟩
  · rw [e, score_none (no_none (sides_R_atL hS r).2)]; exact Nat.le_refl _
  · rw [e]; exact Nat.le_of_lt (score_lt.2 e4)

/-- A matching, by whom each receiver keeps. -/
structure EndQ (P R : List (List Int)) (m : Nat → Int) : Prop where
  stable : StableF P R m
  best : ∀ m', StableF P R m' → ∀ p, p < P.length → scoreQ (nthL P p) (m p) ≤ scoreQ (nthL P p) (m' p)

theorem Inv.done {P R : List (List Int)} {c : Nat → Nat} {h : Int → Int} (hS : sidesQ P R) (H : Inv P R c h) (hd : ∀ p, p < P.length → DoneQ P c h p) {m : Nat → Int}
    (hm : ∀ p, p < P.length → (m p ≠ -1 → h (m p) = (p : Int)) ∧ ∀ r, h r = (p : Int) → m p = r) : EndQ P R m := by
  have hnp : ∀ p, p < P.length → (∃ r, h r = (p : Int) ∧ m p = r ∧ 0 < c p ∧ (nthL P p)[c p - 1]? = some r ∧ (p : Int) ∈ atL R r) ∨ (m p = -1 ∧ FreeQ h p ∧ c p = (nthL P p).length) := by
    intro p hp
    by_cases hf : ∃ r, h r = (p : Int)
    · obtain ⟨r, hr⟩ := hf
      left
      rcases H.held r with e | ⟨q, e, e1, e2, e3, e4⟩
      · rw [hr] at e; omega
      · have : q = p := by rw [hr] at e; omega
        subst this
        exact ⟨r, hr, (hm q hp).2 r hr, e2, e3, e4⟩
    · right
      have hf' : FreeQ h p := fun r hr => hf ⟨r, hr⟩
      refine ⟨?_, hf', ?_⟩
      · by_cases e : m p = -1
        · exact e
        · exact absurd ((hm p hp).1 e) (hf' _)
      · rcases hd p hp with e | e
        · exact e
        · exact absurd e hf
  constructor
  · refine ⟨fun p hp => ?_, fun p q hp hq he hne => ?_, fun p hp r hlt hacc => ?_⟩
    · rcases hnp p hp with ⟨r, h1, h2, h3, h4, h5⟩ | ⟨h1, _, _⟩
      · right; rw [h2]; exact ⟨List.mem_of_getElem? h4, h5⟩
      · exact Or.inl h1
    · have h1 := (hm p hp).1 hne
      have h2 := (hm q hq).1 (by rw [← he]; exact hne)
      rw [he, h2] at h1
      omega
    · have hin : r ∈ nthL P p := by
        rcases hnp p hp with ⟨s, _, h2, _, h4, _⟩ | ⟨h1, _, _⟩
        · rw [h2] at hlt
          exact score_lt.1 (by have := score_lt.2 (List.mem_of_getElem? h4); omega)
        · rw [h1, score_none (no_none (sides_P hS p).2)] at hlt
          exact score_lt.1 hlt
      have hg := score_get hin
      have hasked : scoreQ (nthL P p) r < c p := by
        rcases hnp p hp with ⟨s, _, h2, h3, h4, _⟩ | ⟨h1, _, h3⟩
        · rw [h2, score_at (sides_P hS p).1 h4] at hlt; omega
        · rw [h3]; exact score_lt.2 hin
      obtain ⟨q, hq, hqs⟩ := H.asked p _ r hp hasked hg hacc
      have hql : q < P.length := by
        rcases H.held r with e | ⟨q', e, e1, _⟩
        · rw [hq] at e; omega
        · rw [hq] at e; omega
      have hqp : q ≠ p := by
        intro e; subst e
        have := (hm q hp).2 r hq
        rw [this] at hlt; omega
      refine ⟨q, hql, (hm q hql).2 r hq, ?_⟩
      rcases Nat.lt_or_ge (scoreQ (atL R r) (q : Int)) (scoreQ (atL R r) (p : Int)) with h1 | h1
      · exact h1
      · have := score_inj hacc (show scoreQ (atL R r) (q : Int) = _ by omega)
        omega
  · intro m' hm' p hp
    rcases Nat.lt_or_ge (scoreQ (nthL P p) (m' p)) (scoreQ (nthL P p) (m p)) with h1 | h1
    · exfalso
      have hin : m' p ∈ nthL P p := by
        rcases hnp p hp with ⟨s, _, h2, _, h4, _⟩ | ⟨h2, _, _⟩
        · rw [h2] at h1
          exact score_lt.1 (by have := score_lt.2 (List.mem_of_getElem? h4); omega)
        · rw [h2, score_none (no_none (sides_P hS p).2)] at h1
          exact score_lt.1 h1
      have hg := score_get hin
      have hasked : scoreQ (nthL P p) (m' p) < c p := by
        rcases hnp p hp with ⟨s, _, h2, h3, h4, _⟩ | ⟨h2, _, h3⟩
        · rw [h2, score_at (sides_P hS p).1 h4] at h1; omega
        · rw [h3]; exact score_lt.2 hin
      refine H.last m' hm' p _ (m' p) hp hasked hg ?_ rfl
      intro e
      have := (hm p hp).2 _ e
      rw [this] at h1; omega
    · exact h1

/-- There is but one such matching. -/
theorem EndQ.one {P R : List (List Int)} {m m' : Nat → Int} (hS : sidesQ P R) (h : EndQ P R m) (h' : EndQ P R m') {p : Nat} (hp : p < P.length) : m p = m' p := by
  have h1 := h.best m' h'.stable p hp
  have h2 := h'.best m h.stable p hp
  have he : scoreQ (nthL P p) (m p) = scoreQ (nthL P p) (m' p) := by omega
  rcases h'.stable.own p hp with e | ⟨e, _⟩
  · rcases h.stable.own p hp with e' | ⟨e', _⟩
    · rw [e, e']
    · have := score_lt.2 e'
      rw [he, e, score_none (no_none (sides_P hS p).2)] at this
      omega
  · exact score_inj e he
end Go.Proofs.Ytomnnickiljkgaa
