/- Several texts in one: M. -/
import Derived.Below
/- Numbers in words of 32 bits, as lists: their values, their canonical digits, and how both change where one word is set. Plain arithmetic: no program. -/
namespace Go.Proofs.YtlaphdlocchagaaGreat

/-- The number that words stand for, the least first. -/
def val : List Nat → Nat
  | [] => 0
  | x :: l => x + 4294967296 * val l

/-- The word at a place, 0 behind the last one. -/
def nth (l : List Nat) (k : Nat) : Nat := l.getD k 0

/-- Each is a word. -/
def Ws (l : List Nat) : Prop := ∀ x ∈ l, x < 4294967296

/-- The words of a number, no zero word last. -/
def digs (n : Nat) : List Nat := if h : n = 0 then [] else (n % 4294967296) :: digs (n / 4294967296)
termination_by n
decreasing_by omega

theorem digs_zero : digs 0 = [] := by unfold digs; simp
theorem digs_pos {n : Nat} (h : n ≠ 0) : digs n = (n % 4294967296) :: digs (n / 4294967296) := by rw [digs]; simp [h]

theorem val_digs (n : Nat) : val (digs n) = n := by
  induction n using Nat.strongRecOn with
  | _ n ih =>
    by_cases h : n = 0
    · subst h; simp [digs_zero, val]
    · rw [digs_pos h, val, ih _ (by omega)]; omega

theorem ws_digs (n : Nat) : Ws (digs n) := by
  induction n using Nat.strongRecOn with
  | _ n ih =>
    by_cases h : n = 0
    · subst h; simp [digs_zero, Ws]
    · rw [digs_pos h]
      intro x hx
      rcases List.mem_cons.1 hx with rfl | hx
      · omega
      · exact ih _ (by omega) x hx

theorem digs_eq_nil {n : Nat} : digs n = [] ↔ n = 0 := by
  constructor
  · intro h; have := val_digs n; rw [h] at this; simpa [val] using this.symm
  · rintro rfl; exact digs_zero

/-- No zero word stands last. -/
def Norm (l : List Nat) : Prop := ∀ x, l.getLast? = some x → x ≠ 0

theorem norm_digs (n : Nat) : Norm (digs n) := by
  induction n using Nat.strongRecOn with
  | _ n ih =>
    by_cases h : n = 0
    · subst h; simp [digs_zero, Norm]
    · rw [digs_pos h]
      intro x hx
      by_cases h2 : n / 4294967296 = 0
      · rw [h2, digs_zero] at hx; simp at hx; omega
      · have h3 : digs (n / 4294967296) ≠ [] := fun e => h2 (digs_eq_nil.1 e)
        rw [List.getLast?_cons_of_ne_nil h3] at hx
        exact ih _ (by omega) x hx

theorem ws_cons {x : Nat} {l : List Nat} : Ws (x :: l) ↔ x < 4294967296 ∧ Ws l := by simp [Ws]

theorem digs_val (l : List Nat) : Ws l → Norm l → digs (val l) = l := by
  induction l with
  | nil => intro _ _; simp [val, digs_zero]
  | cons x l ih =>
    intro hw hn
    obtain ⟨hx, hl⟩ := ws_cons.1 hw
    have hn' : Norm l := by
      intro y hy
      refine hn y ?_
      have : l ≠ [] := by rintro rfl; simp at hy
      rw [List.getLast?_cons_of_ne_nil this]; exact hy
    have hne : val (x :: l) ≠ 0 := by
      intro h0
      simp only [val] at h0
      have hx0 : x = 0 := by omega
      have hv : val l = 0 := by omega
      have := ih hl hn'
      rw [hv, digs_zero] at this
      subst this; subst hx0
      exact hn 0 (by simp) rfl
    rw [digs_pos hne]
    simp only [val]
    rw [show (x + 4294967296 * val l) % 4294967296 = x from by omega, show (x + 4294967296 * val l) / 4294967296 = val l from by omega, ih hl hn']

theorem val_append (l m : List Nat) : val (l ++ m) = val l + 4294967296 ^ l.length * val m := by
  induction l with
  | nil => simp [val]
  | cons x l ih => simp only [List.cons_append, val, ih, List.length_cons, Nat.pow_succ]; grind

theorem val_lt {l : List Nat} (h : Ws l) : val l < 4294967296 ^ l.length := by
  induction l with
  | nil => simp [val]
  | cons x l ih =>
    obtain ⟨hx, hl⟩ := ws_cons.1 h
    have := ih hl
    simp only [val, List.length_cons, Nat.pow_succ]
    omega

theorem ws_append {l m : List Nat} (h : Ws l) (k : Ws m) : Ws (l ++ m) := by
  intro x hx; rcases List.mem_append.1 hx with h1 | h1
  · exact h x h1
  · exact k x h1

theorem ws_take {l : List Nat} (h : Ws l) (k : Nat) : Ws (l.take k) := fun x hx => h x (List.mem_of_mem_take hx)
theorem ws_drop {l : List Nat} (h : Ws l) (k : Nat) : Ws (l.drop k) := fun x hx => h x (List.mem_of_mem_drop hx)
theorem ws_set {l : List Nat} (h : Ws l) (k : Nat) {x : Nat} (hx : x < 4294967296) : Ws (l.set k x) := by
  intro y hy
  rcases List.mem_or_eq_of_mem_set hy with h1 | h1
  · exact h y h1
  · subst h1; exact hx
theorem ws_replicate (n : Nat) : Ws (List.replicate n 0) := by intro x hx; rw [List.mem_replicate] at hx; omega
theorem ws_nil : Ws [] := by intro x hx; simp at hx
theorem ws_nth {l : List Nat} (h : Ws l) (k : Nat) : nth l k < 4294967296 := by
  unfold nth
  rw [List.getD_eq_getElem?_getD]
  cases hk : l[k]? with
  | none => simp
  | some x => simpa using h x (List.mem_of_getElem? hk)

theorem val_take_succ (l : List Nat) (k : Nat) : val (l.take (k + 1)) = val (l.take k) + 4294967296 ^ k * nth l k := by
  unfold nth
  by_cases h : k < l.length
  · rw [List.take_succ_eq_append_getElem h, val_append]
    simp only [val, List.length_take, Nat.min_eq_left (Nat.le_of_lt h), List.getD_eq_getElem?_getD, List.getElem?_eq_getElem h, Option.getD_some]
    simp
  · rw [List.take_of_length_le (by omega), List.take_of_length_le (by omega), List.getD_eq_getElem?_getD, List.getElem?_eq_none (by omega)]
    simp

theorem val_take_zero (l : List Nat) : val (l.take 0) = 0 := by simp [val]
theorem val_take_all {l : List Nat} {k : Nat} (h : l.length ≤ k) : val (l.take k) = val l := by rw [List.take_of_length_le h]
theorem val_split (l : List Nat) (k : Nat) (h : k ≤ l.length) : val l = val (l.take k) + 4294967296 ^ k * val (l.drop k) := by
  conv => lhs; rw [← List.take_append_drop k l]
  rw [val_append, List.length_take, Nat.min_eq_left h]
theorem val_drop_succ (l : List Nat) (k : Nat) : val (l.drop k) = nth l k + 4294967296 * val (l.drop (k + 1)) := by
  unfold nth
  by_cases h : k < l.length
  · rw [List.drop_eq_getElem_cons h]
    simp [val, List.getD_eq_getElem?_getD, List.getElem?_eq_getElem h]
  · rw [List.drop_eq_nil_of_le (by omega), List.drop_eq_nil_of_le (by omega), List.getD_eq_getElem?_getD, List.getElem?_eq_none (by omega)]
    simp [val]

theorem val_take_lt {l : List Nat} (h : Ws l) (k : Nat) : val (l.take k) < 4294967296 ^ k := by
  have h1 := val_lt (ws_take h k)
  refine Nat.lt_of_lt_of_le h1 (Nat.pow_le_pow_right (by omega) ?_)
  rw [List.length_take]; omega

/-- The words up to a place, where that place has just been set. -/
theorem take_set_succ {α : Type} (l : List α) (k : Nat) (x : α) (h : k < l.length) : (l.set k x).take (k + 1) = l.take k ++ [x] := by
  rw [List.take_succ_eq_append_getElem (by simpa using h)]
  simp [List.take_set_of_le]
theorem val_take_set (l : List Nat) (k x : Nat) (h : k < l.length) : val ((l.set k x).take (k + 1)) = val (l.take k) + 4294967296 ^ k * x := by
  rw [take_set_succ l k x h, val_append]
  simp [val, Nat.min_eq_left (Nat.le_of_lt h)]
theorem nth_set_self (l : List Nat) (k x : Nat) (h : k < l.length) : nth (l.set k x) k = x := by
  simp [nth, List.getD_eq_getElem?_getD, h]
theorem nth_set_ne (l : List Nat) (k j x : Nat) (h : j ≠ k) : nth (l.set k x) j = nth l j := by
  simp [nth, List.getD_eq_getElem?_getD, List.getElem?_set_ne (Ne.symm h)]
theorem nth_out {l : List Nat} {i : Nat} (h : l.length ≤ i) : nth l i = 0 := by
  unfold nth; rw [List.getD_eq_getElem?_getD, List.getElem?_eq_none h]; rfl
theorem nth_getElem {l : List Nat} {i : Nat} (h : i < l.length) : nth l i = l[i] := by
  simp [nth, List.getD_eq_getElem?_getD, h]
theorem nth_take {l : List Nat} {i k : Nat} (h : i < k) : nth (l.take k) i = nth l i := by
  simp [nth, List.getD_eq_getElem?_getD, List.getElem?_take_of_lt h]
theorem nth_drop (l : List Nat) (i k : Nat) : nth (l.drop k) i = nth l (k + i) := by
  simp [nth, List.getD_eq_getElem?_getD]
theorem nth_replicate (n i : Nat) : nth (List.replicate n 0) i = 0 := by
  simp only [nth, List.getD_eq_getElem?_getD, List.getElem?_replicate]; split <;> rfl
theorem val_replicate (n : Nat) : val (List.replicate n 0) = 0 := by
  induction n with
  | zero => simp [val]
  | succ n ih => rw [List.replicate_succ]; simp [val, ih]

theorem ws_val_inj {l m : List Nat} (hl : Ws l) (hm : Ws m) (hn : Norm l) (hk : Norm m) (h : val l = val m) : l = m := by
  rw [← digs_val l hl hn, ← digs_val m hm hk, h]

theorem norm_take {l : List Nat} {k : Nat} (hk : k ≤ l.length) (h : k = 0 ∨ nth l (k - 1) ≠ 0) : Norm (l.take k) := by
  intro x hx
  rcases Nat.eq_zero_or_pos k with h0 | h0
  · subst h0; simp at hx
  · rw [List.getLast?_eq_getElem?, List.length_take, Nat.min_eq_left hk, List.getElem?_take_of_lt (by omega), List.getElem?_eq_getElem (by omega)] at hx
    have hne := h.resolve_left (by omega)
    rw [nth_getElem (by omega)] at hne
    cases hx; exact hne
theorem digs_take {l : List Nat} {k : Nat} (hw : Ws l) (hk : k ≤ l.length) (h : k = 0 ∨ nth l (k - 1) ≠ 0) (hv : val (l.take k) = val l) : digs (val l) = l.take k := by
  rw [← hv]; exact digs_val _ (ws_take hw k) (norm_take hk h)
/-- The canonical words are the first ones: behind them stand zero words alone. -/
theorem digs_prefix {l : List Nat} (hw : Ws l) : digs (val l) = l.take (digs (val l)).length := by
  induction l with
  | nil => simp [val, digs_zero]
  | cons x l ih =>
    obtain ⟨hx, hl⟩ := ws_cons.1 hw
    by_cases h : val (x :: l) = 0
    · rw [h, digs_zero]; simp
    · rw [digs_pos h]
      simp only [val]
      rw [show (x + 4294967296 * val l) % 4294967296 = x from by omega, show (x + 4294967296 * val l) / 4294967296 = val l from by omega, List.length_cons, List.take_succ_cons, ← ih hl]
/-- The last word of a canonical number is not 0. -/
theorem nth_last {l : List Nat} (hn : Norm l) (h : l ≠ []) : nth l (l.length - 1) ≠ 0 := by
  have hlen : l.length - 1 < l.length := by have := List.length_pos_iff.2 h; omega
  refine hn _ ?_
  rw [List.getLast?_eq_getElem?, List.getElem?_eq_getElem hlen, nth_getElem hlen]

/-! ### How many words -/
theorem len_digs_le {n k : Nat} : (digs n).length ≤ k ↔ n < 4294967296 ^ k := by
  induction k generalizing n with
  | zero =>
    by_cases h : n = 0
    · subst h; simp [digs_zero]
    · simp [digs_pos h]; omega
  | succ k ih =>
    by_cases h : n = 0
    · subst h; simp [digs_zero]; exact Nat.pos_of_ne_zero (by simp)
    · rw [digs_pos h, List.length_cons, Nat.add_le_add_iff_right, ih, Nat.pow_succ]
      exact Nat.div_lt_iff_lt_mul (by omega)
theorem len_digs_mono {m n : Nat} (h : m ≤ n) : (digs m).length ≤ (digs n).length :=
  len_digs_le.2 (Nat.lt_of_le_of_lt h (len_digs_le.1 (Nat.le_refl _)))
theorem lt_of_len_digs (n : Nat) : n < 4294967296 ^ (digs n).length := len_digs_le.1 (Nat.le_refl _)
theorem le_of_len_digs {n : Nat} (h : n ≠ 0) : 4294967296 ^ ((digs n).length - 1) ≤ n := by
  apply Nat.le_of_not_lt
  intro hc
  have := len_digs_le.2 hc
  have : (digs n).length ≠ 0 := fun e => h (digs_eq_nil.1 (List.eq_nil_of_length_eq_zero e))
  omega
theorem len_digs_mul (m n : Nat) : (digs (m * n)).length ≤ (digs m).length + (digs n).length := by
  rw [len_digs_le, Nat.pow_add]
  exact Nat.mul_lt_mul'' (lt_of_len_digs m) (lt_of_len_digs n)
theorem len_digs_add (m n : Nat) (k : Nat) (h1 : (digs m).length ≤ k) (h2 : (digs n).length ≤ k) : (digs (m + n)).length ≤ k + 1 := by
  rw [len_digs_le] at *
  rw [Nat.pow_succ]; omega
theorem len_digs_val {l : List Nat} (h : Ws l) : (digs (val l)).length ≤ l.length := len_digs_le.2 (val_lt h)

/-! ### The number that stands in a part of words -/
/-- The number of k words from a place on. -/
def pv (l : List Nat) (off k : Nat) : Nat := val ((l.drop off).take k)
theorem pv_zero (l : List Nat) (off : Nat) : pv l off 0 = 0 := by simp [pv, val]
theorem pv_succ (l : List Nat) (off k : Nat) : pv l off (k + 1) = pv l off k + 4294967296 ^ k * nth l (off + k) := by
  unfold pv; rw [val_take_succ, nth_drop]
theorem pv_congr {l m : List Nat} {off : Nat} : ∀ {k : Nat}, (∀ j, j < k → nth l (off + j) = nth m (off + j)) → pv l off k = pv m off k
  | 0, _ => by rw [pv_zero, pv_zero]
  | k + 1, h => by rw [pv_succ, pv_succ, pv_congr (k := k) (fun j hj => h j (by omega)), h k (by omega)]
theorem pv_shift {l m : List Nat} {off off' : Nat} : ∀ {k : Nat}, (∀ j, j < k → nth l (off + j) = nth m (off' + j)) → pv l off k = pv m off' k
  | 0, _ => by rw [pv_zero, pv_zero]
  | k + 1, h => by rw [pv_succ, pv_succ, pv_shift (k := k) (fun j hj => h j (by omega)), h k (by omega)]
theorem pv_set (l : List Nat) (off k x : Nat) (h : off + k < l.length) : pv (l.set (off + k) x) off (k + 1) = pv l off k + 4294967296 ^ k * x := by
  rw [pv_succ, nth_set_self _ _ _ h, pv_congr (m := l) (fun j hj => nth_set_ne _ _ _ _ (by omega))]
theorem pv_add (l : List Nat) (off k m : Nat) : pv l off (k + m) = pv l off k + 4294967296 ^ k * pv l (off + k) m := by
  induction m with
  | zero => simp [pv_zero]
  | succ m ih => rw [← Nat.add_assoc, pv_succ, ih, pv_succ, Nat.pow_add, Nat.mul_add, Nat.add_assoc off k m]; grind
theorem pv_lt {l : List Nat} (h : Ws l) (off k : Nat) : pv l off k < 4294967296 ^ k := val_take_lt (ws_drop h off) k
theorem pv_all {l : List Nat} {k : Nat} (h : l.length ≤ k) : pv l 0 k = val l := by simp only [pv, List.drop_zero]; exact val_take_all h
theorem pv_out {l : List Nat} {off k : Nat} (h : l.length ≤ off) : pv l off k = 0 := by
  unfold pv; rw [List.drop_eq_nil_of_le h]; simp [val]
theorem pv_replicate (n off k : Nat) : pv (List.replicate n 0) off k = 0 := by
  induction k with
  | zero => exact pv_zero _ _
  | succ k ih => rw [pv_succ, ih, nth_replicate]; simp
/-- Words set from a place on, the others as they were. -/
theorem nth_set (l : List Nat) (k j x : Nat) (h : k < l.length) : nth (l.set k x) j = if j = k then x else nth l j := by
  by_cases e : j = k
  · subst e; rw [if_pos rfl, nth_set_self _ _ _ h]
  · rw [if_neg e, nth_set_ne _ _ _ _ e]

/-- A word of a sum: what stands at the place, and what is carried on. -/
theorem inc_step {L M lb : List Nat} {off k cr s : Nat} (hM : off + k < M.length) (hs : s = cr + (nth M (off + k) + nth lb k)) (hx : nth M (off + k) = nth L (off + k))
    (hv : pv M off k + 4294967296 ^ k * cr = pv L off k + pv lb 0 k) :
    pv (M.set (off + k) (s % 4294967296)) off (k + 1) + 4294967296 ^ (k + 1) * (s / 4294967296) = pv L off (k + 1) + pv lb 0 (k + 1) := by
  rw [pv_set _ _ _ _ hM, pv_succ, pv_succ, Nat.zero_add, ← hx, Nat.pow_succ]
  have h := Nat.mod_add_div s 4294967296
  generalize s % 4294967296 = d at *
  generalize s / 4294967296 = q at *
  generalize 4294967296 ^ k = p at *
  subst hs
  have : p * (d + 4294967296 * q) = p * (cr + (nth M (off + k) + nth lb k)) := by rw [h]
  grind

theorem val_split' (l : List Nat) (k : Nat) : ∃ r, val l = pv l 0 k + 4294967296 ^ k * r := by
  by_cases h : k ≤ l.length
  · exact ⟨_, by simpa [pv] using val_split l k h⟩
  · exact ⟨0, by rw [pv_all (by omega)]; simp⟩
theorem inc_end {L M lb : List Nat} {off n cr : Nat} (hM : Ws M) (hv : pv M off n + 4294967296 ^ n * cr = pv L off n + pv lb 0 n) :
    pv M off n = (pv L off n + val lb) % 4294967296 ^ n := by
  obtain ⟨r, hr⟩ := val_split' lb n
  have h1 := pv_lt hM off n
  rw [hr, ← Nat.add_assoc, ← hv, Nat.add_mul_mod_self_left, Nat.add_mul_mod_self_left, Nat.mod_eq_of_lt h1]
theorem inc_stop {L M lb : List Nat} {off n k : Nat} (hM : Ws M) (hk : k ≤ n) (hl : lb.length ≤ k) (hs : ∀ j, off + k ≤ j → nth M j = nth L j)
    (hv : pv M off k + 4294967296 ^ k * 0 = pv L off k + pv lb 0 k) :
    pv M off n = (pv L off n + val lb) % 4294967296 ^ n := by
  have h1 := pv_lt hM off n
  have e : n = k + (n - k) := by omega
  have h2 : pv M off n = pv L off n + val lb := by
    rw [e, pv_add, pv_add, pv_congr (l := M) (m := L) (off := off + k) (fun j _ => hs _ (by omega))]
    rw [pv_all hl] at hv
    omega
  rw [← h2, Nat.mod_eq_of_lt h1]

theorem pv_eq_val {l : List Nat} {k : Nat} (h : l.length = k) : pv l 0 k = val l := pv_all (by omega)

theorem digs_drop (x k : Nat) : (digs x).drop k = digs (x / 4294967296 ^ k) := by
  induction k generalizing x with
  | zero => simp
  | succ k ih =>
    by_cases h : x = 0
    · subst h; simp [digs_zero]
    · rw [digs_pos h, List.drop_succ_cons, ih, Nat.pow_succ, Nat.div_div_eq_div_mul, Nat.mul_comm]
theorem val_take_digs (x k : Nat) : val ((digs x).take k) = x % 4294967296 ^ k := by
  obtain ⟨r, hr⟩ := val_split' (digs x) k
  have h := pv_lt (ws_digs x) 0 k
  rw [val_digs] at hr
  have e : pv (digs x) 0 k = val ((digs x).take k) := by simp [pv]
  rw [e] at hr h
  have h2 := congrArg (· % 4294967296 ^ k) hr
  simp only [Nat.add_mul_mod_self_left, Nat.mod_eq_of_lt h] at h2
  exact h2.symm

/-- What an addition from a place on makes of the whole, where there is room. -/
theorem inc_total {L L' : List Nat} {off n z : Nat} (hlen : L'.length = L.length) (hn : off + n = L.length) (hsame : ∀ j, (j < off ∨ off + n ≤ j) → nth L' j = nth L j)
    (hv : pv L' off n = (pv L off n + z) % 4294967296 ^ n) (hroom : val L + 4294967296 ^ off * z < 4294967296 ^ L.length) : val L' = val L + 4294967296 ^ off * z := by
  have e1 : val L = pv L 0 off + 4294967296 ^ off * pv L off n := by
    rw [← pv_eq_val (k := off + n) hn.symm, pv_add, Nat.zero_add]
  have e2 : val L' = pv L' 0 off + 4294967296 ^ off * pv L' off n := by
    rw [← pv_eq_val (k := off + n) (by omega), pv_add, Nat.zero_add]
  have e3 : pv L' 0 off = pv L 0 off := pv_congr (fun j hj => by rw [Nat.zero_add]; exact hsame j (Or.inl hj))
  have hlt : pv L off n + z < 4294967296 ^ n := by
    rw [e1, ← hn, Nat.pow_add] at hroom
    have : 4294967296 ^ off * (pv L off n + z) < 4294967296 ^ off * 4294967296 ^ n := by
      rw [Nat.mul_add]; omega
    exact Nat.lt_of_mul_lt_mul_left this
  rw [e2, e3, hv, Nat.mod_eq_of_lt hlt, e1, Nat.mul_add]; omega

/-- Lists of one length with the same words at each place. -/
theorem ext_nth {l m : List Nat} (h : l.length = m.length) (hj : ∀ j, j < l.length → nth l j = nth m j) : l = m := by
  refine List.ext_getElem h fun j h1 h2 => ?_
  have := hj j h1
  rwa [nth_getElem h1, nth_getElem h2] at this

/-- Two canonical numbers stand in order as their lengths do, or as their words from the last on do. -/
theorem val_lt_of_len {l m : List Nat} (hl : Ws l) (hm : Norm m) (hne : m ≠ []) (h : l.length < m.length) : val l < val m := by
  have h1 := val_lt hl
  obtain ⟨x, hx⟩ : ∃ x, m.getLast? = some x := by
    cases hq : m.getLast? with
    | none => exact absurd (List.getLast?_eq_none_iff.1 hq) hne
    | some x => exact ⟨x, rfl⟩
  have hx0 := hm x hx
  have hlen : m.length - 1 < m.length := by have := List.length_pos_iff.2 hne; omega
  have hget : nth m (m.length - 1) = x := by
    rw [List.getLast?_eq_getElem?] at hx
    simp [nth]; simp [hx]
  have h2 : val (m.take (m.length - 1 + 1)) = val (m.take (m.length - 1)) + 4294967296 ^ (m.length - 1) * x := by rw [val_take_succ, hget]
  rw [Nat.sub_add_cancel (by omega), List.take_length] at h2
  have h3 : 4294967296 ^ l.length ≤ 4294967296 ^ (m.length - 1) := Nat.pow_le_pow_right (by omega) (by omega)
  have h4 : 4294967296 ^ (m.length - 1) * 1 ≤ 4294967296 ^ (m.length - 1) * x := Nat.mul_le_mul_left _ (by omega)
  omega
end Go.Proofs.YtlaphdlocchagaaGreat
