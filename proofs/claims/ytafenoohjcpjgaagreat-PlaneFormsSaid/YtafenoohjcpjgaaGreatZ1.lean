/- Several texts in one: M, P. -/
import Derived.Below
import Derived.WalkKit
import Derived.WalkSpells
import Derived.WalkLawsBesides
import Derived.Lib.Hide
import Derived.Laws.CopyOwn
import Derived.BigQuiet
import Derived.Deep.QuietTactic
/- Numbers in words of 32 bits, as lists: their values, their canonical digits, and how both change where one word is set. Plain arithmetic: no program. -/
namespace Go.Proofs.YtafenoohjcpjgaaGreat

/-- The number that words stand for, the least first. -/
def val : List Nat → Nat
  | [] => 0
  | x :: l => x + 4294967296 * val l

/-- The word at a place, 0 behind the last one. -/
def nth (l : List Nat) (k : Nat) : Nat := l.getD k 0

/-- Each is a word. -/
def Ws (l : List Nat) : Prop := ∀ x ∈ l, x < 4294967296

/-- The words of a number, no zero word last. -/
def digs (n : Nat) : List Nat := if h : n = 0 then [] else (n % 4294967296) :: digs (n / 4294967296)
termination_by n
decreasing_by omega

theorem digs_zero : digs 0 = [] := by unfold digs; simp
theorem digs_pos {n : Nat} (h : n ≠ 0) : digs n = (n % 4294967296) :: digs (n / 4294967296) := by rw [digs]; simp [h]

theorem val_digs (n : Nat) : val (digs n) = n := by
  induction n using Nat.strongRecOn with
  | _ n ih =>
    by_cases h : n = 0
    · subst h; simp [digs_zero, val]
    · rw [digs_pos h, val, ih _ (by omega)]; omega

theorem ws_digs (n : Nat) : Ws (digs n) := by
  induction n using Nat.strongRecOn with
  | _ n ih =>
    by_cases h : n = 0
    · subst h; simp [digs_zero, Ws]
    · rw [digs_pos h]
      intro x hx
      rcases List.mem_cons.1 hx with rfl | hx
      · omega
      · exact ih _ (by omega) x hx

theorem digs_eq_nil {n : Nat} : digs n = [] ↔ n = 0 := by
  constructor
  · intro h; have := val_digs n; rw [h] at this; simpa [val] using this.symm
  · rintro rfl; exact digs_zero

/-- No zero word stands last. -/
def Norm (l : List Nat) : Prop := ∀ x, l.getLast? = some x → x ≠ 0

theorem norm_digs (n : Nat) : Norm (digs n) := by
  induction n using Nat.strongRecOn with
  | _ n ih =>
    by_cases h : n = 0
    · subst h; simp [digs_zero, Norm]
    · rw [digs_pos h]
      intro x hx
      by_cases h2 : n / 4294967296 = 0
      · rw [h2, digs_zero] at hx; simp at hx; omega
      · have h3 : digs (n / 4294967296) ≠ [] := fun e => h2 (digs_eq_nil.1 e)
        rw [List.getLast?_cons_of_ne_nil h3] at hx
        exact ih _ (by omega) x hx

theorem ws_cons {x : Nat} {l : List Nat} : Ws (x :: l) ↔ x < 4294967296 ∧ Ws l := by simp [Ws]

theorem digs_val (l : List Nat) : Ws l → Norm l → digs (val l) = l := by
  induction l with
  | nil => intro _ _; simp [val, digs_zero]
  | cons x l ih =>
    intro hw hn
    obtain ⟨hx, hl⟩ := ws_cons.1 hw
    have hn' : Norm l := by
      intro y hy
      refine hn y ?_
      have : l ≠ [] := by rintro rfl; simp at hy
      rw [List.getLast?_cons_of_ne_nil this]; exact hy
    have hne : val (x :: l) ≠ 0 := by
      intro h0
      simp only [val] at h0
      have hx0 : x = 0 := by omega
      have hv : val l = 0 := by omega
      have := ih hl hn'
      rw [hv, digs_zero] at this
      subst this; subst hx0
      exact hn 0 (by simp) rfl
    rw [digs_pos hne]
    simp only [val]
    rw [show (x + 4294967296 * val l) % 4294967296 = x from by omega, show (x + 4294967296 * val l) / 4294967296 = val l from by omega, ih hl hn']

theorem val_append (l m : List Nat) : val (l ++ m) = val l + 4294967296 ^ l.length * val m := by
  induction l with
  | nil => simp [val]
  | cons x l ih => simp only [List.cons_append, val, ih, List.length_cons, Nat.pow_succ]; grind

theorem val_lt {l : List Nat} (h : Ws l) : val l < 4294967296 ^ l.length := by
  induction l with
  | nil => simp [val]
  | cons x l ih =>
    obtain ⟨hx, hl⟩ := ws_cons.1 h
    have := ih hl
    simp only [val, List.length_cons, Nat.pow_succ]
    omega

theorem ws_take {l : List Nat} (h : Ws l) (k : Nat) : Ws (l.take k) := fun x hx => h x (List.mem_of_mem_take hx)
theorem ws_drop {l : List Nat} (h : Ws l) (k : Nat) : Ws (l.drop k) := fun x hx => h x (List.mem_of_mem_drop hx)
theorem ws_set {l : List Nat} (h : Ws l) (k : Nat) {x : Nat} (hx : x < 4294967296) : Ws (l.set k x) := by
  intro y hy
  rcases List.mem_or_eq_of_mem_set hy with h1 | h1
  · exact h y h1
  · subst h1; exact hx
theorem ws_replicate (n : Nat) : Ws (List.replicate n 0) := by intro x hx; rw [List.mem_replicate] at hx; omega
theorem ws_nil : Ws [] := by intro x hx; simp at hx
theorem ws_nth {l : List Nat} (h : Ws l) (k : Nat) : nth l k < 4294967296 := by
  unfold nth
  rw [List.getD_eq_getElem?_getD]
  cases hk : l[k]? with
  | none => simp
  | some x => simpa using h x (List.mem_of_getElem? hk)

theorem val_take_succ (l : List Nat) (k : Nat) : val (l.take (k + 1)) = val (l.take k) + 4294967296 ^ k * nth l k := by
  unfold nth
  by_cases h : k < l.length
  · rw [List.take_succ_eq_append_getElem h, val_append]
    simp only [val, List.length_take, Nat.min_eq_left (Nat.le_of_lt h), List.getD_eq_getElem?_getD, List.getElem?_eq_getElem h, Option.getD_some]
    simp
  · rw [List.take_of_length_le (by omega), List.take_of_length_le (by omega), List.getD_eq_getElem?_getD, List.getElem?_eq_none (by omega)]
    simp

theorem val_take_zero (l : List Nat) : val (l.take 0) = 0 := by simp [val]
theorem val_take_all {l : List Nat} {k : Nat} (h : l.length ≤ k) : val (l.take k) = val l := by rw [List.take_of_length_le h]
theorem val_split (l : List Nat) (k : Nat) (h : k ≤ l.length) : val l = val (l.take k) + 4294967296 ^ k * val (l.drop k) := by
  conv => lhs; rw [← List.take_append_drop k l]
  rw [val_append, List.length_take, Nat.min_eq_left h]
theorem val_drop_succ (l : List Nat) (k : Nat) : val (l.drop k) = nth l k + 4294967296 * val (l.drop (k + 1)) := by
  unfold nth
  by_cases h : k < l.length
  · rw [List.drop_eq_getElem_cons h]
    simp [val, List.getD_eq_getElem?_getD, List.getElem?_eq_getElem h]
  · rw [List.drop_eq_nil_of_le (by omega), List.drop_eq_nil_of_le (by omega), List.getD_eq_getElem?_getD, List.getElem?_eq_none (by omega)]
    simp [val]

theorem val_take_lt {l : List Nat} (h : Ws l) (k : Nat) : val (l.take k) < 4294967296 ^ k := by
  have h1 := val_lt (ws_take h k)
  refine Nat.lt_of_lt_of_le h1 (Nat.pow_le_pow_right (by omega) ?_)
  rw [List.length_take]; omega

theorem nth_set_self (l : List Nat) (k x : Nat) (h : k < l.length) : nth (l.set k x) k = x := by
  simp [nth, List.getD_eq_getElem?_getD, h]
theorem nth_set_ne (l : List Nat) (k j x : Nat) (h : j ≠ k) : nth (l.set k x) j = nth l j := by
  simp [nth, List.getD_eq_getElem?_getD, List.getElem?_set_ne (Ne.symm h)]
theorem nth_out {l : List Nat} {i : Nat} (h : l.length ≤ i) : nth l i = 0 := by
  unfold nth; rw [List.getD_eq_getElem?_getD, List.getElem?_eq_none h]; rfl
theorem nth_getElem {l : List Nat} {i : Nat} (h : i < l.length) : nth l i = l[i] := by
  simp [nth, List.getD_eq_getElem?_getD, h]
theorem nth_take {l : List Nat} {i k : Nat} (h : i < k) : nth (l.take k) i = nth l i := by
  simp [nth, List.getD_eq_getElem?_getD, List.getElem?_take_of_lt h]
theorem nth_drop (l : List Nat) (i k : Nat) : nth (l.drop k) i = nth l (k + i) := by
  simp [nth, List.getD_eq_getElem?_getD]
theorem nth_replicate (n i : Nat) : nth (List.replicate n 0) i = 0 := by
  simp only [nth, List.getD_eq_getElem?_getD, List.getElem?_replicate]; split <;> rfl
theorem norm_take {l : List Nat} {k : Nat} (hk : k ≤ l.length) (h : k = 0 ∨ nth l (k - 1) ≠ 0) : Norm (l.take k) := by
  intro x hx
  rcases Nat.eq_zero_or_pos k with h0 | h0
  · subst h0; simp at hx
  · rw [List.getLast?_eq_getElem?, List.length_take, Nat.min_eq_left hk, List.getElem?_take_of_lt (by omega), List.getElem?_eq_getElem (by omega)] at hx
    have hne := h.resolve_left (by omega)
    rw [nth_getElem (by omega)] at hne
    cases hx; exact hne
theorem digs_take {l : List Nat} {k : Nat} (hw : Ws l) (hk : k ≤ l.length) (h : k = 0 ∨ nth l (k - 1) ≠ 0) (hv : val (l.take k) = val l) : digs (val l) = l.take k := by
  rw [← hv]; exact digs_val _ (ws_take hw k) (norm_take hk h)
/-- The canonical words are the first ones: behind them stand zero words alone. -/
theorem digs_prefix {l : List Nat} (hw : Ws l) : digs (val l) = l.take (digs (val l)).length := by
  induction l with
  | nil => simp [val, digs_zero]
  | cons x l ih =>
    obtain ⟨hx, hl⟩ := ws_cons.1 hw
    by_cases h : val (x :: l) = 0
    · rw [h, digs_zero]; simp
    · rw [digs_pos h]
      simp only [val]
      rw [show (x + 4294967296 * val l) % 4294967296 = x from by omega, show (x + 4294967296 * val l) / 4294967296 = val l from by omega, List.length_cons, List.take_succ_cons, ← ih hl]
/-- The last word of a canonical number is not 0. -/
theorem nth_last {l : List Nat} (hn : Norm l) (h : l ≠ []) : nth l (l.length - 1) ≠ 0 := by
  have hlen : l.length - 1 < l.length := by have := List.length_pos_iff.2 h; omega
  refine hn _ ?_
  rw [List.getLast?_eq_getElem?, List.getElem?_eq_getElem hlen, nth_getElem hlen]

/-! ### How many words -/
theorem len_digs_le {n k : Nat} : (digs n).length ≤ k ↔ n < 4294967296 ^ k := by
  induction k generalizing n with
  | zero =>
    by_cases h : n = 0
    · subst h; simp [digs_zero]
    · simp [digs_pos h]; omega
  | succ k ih =>
    by_cases h : n = 0
    · subst h; simp [digs_zero]; exact Nat.pos_of_ne_zero (by simp)
    · rw [digs_pos h, List.length_cons, Nat.add_le_add_iff_right, ih, Nat.pow_succ]
      exact Nat.div_lt_iff_lt_mul (by omega)
theorem len_digs_mono {m n : Nat} (h : m ≤ n) : (digs m).length ≤ (digs n).length :=
  len_digs_le.2 (Nat.lt_of_le_of_lt h (len_digs_le.1 (Nat.le_refl _)))
theorem lt_of_len_digs (n : Nat) : n < 4294967296 ^ (digs n).length := len_digs_le.1 (Nat.le_refl _)
theorem len_digs_mul (m n : Nat) : (digs (m * n)).length ≤ (digs m).length + (digs n).length := by
  rw [len_digs_le, Nat.pow_add]
  exact Nat.mul_lt_mul'' (lt_of_len_digs m) (lt_of_len_digs n)
theorem len_digs_val {l : List Nat} (h : Ws l) : (digs (val l)).length ≤ l.length := len_digs_le.2 (val_lt h)

/-! ### The number that stands in a part of words -/
/-- The number of k words from a place on. -/
def pv (l : List Nat) (off k : Nat) : Nat := val ((l.drop off).take k)
theorem pv_zero (l : List Nat) (off : Nat) : pv l off 0 = 0 := by simp [pv, val]
theorem pv_succ (l : List Nat) (off k : Nat) : pv l off (k + 1) = pv l off k + 4294967296 ^ k * nth l (off + k) := by
  unfold pv; rw [val_take_succ, nth_drop]
theorem pv_congr {l m : List Nat} {off : Nat} : ∀ {k : Nat}, (∀ j, j < k → nth l (off + j) = nth m (off + j)) → pv l off k = pv m off k
  | 0, _ => by rw [pv_zero, pv_zero]
  | k + 1, h => by rw [pv_succ, pv_succ, pv_congr (k := k) (fun j hj => h j (by omega)), h k (by omega)]
theorem pv_set (l : List Nat) (off k x : Nat) (h : off + k < l.length) : pv (l.set (off + k) x) off (k + 1) = pv l off k + 4294967296 ^ k * x := by
  rw [pv_succ, nth_set_self _ _ _ h, pv_congr (m := l) (fun j hj => nth_set_ne _ _ _ _ (by omega))]
theorem pv_add (l : List Nat) (off k m : Nat) : pv l off (k + m) = pv l off k + 4294967296 ^ k * pv l (off + k) m := by
  induction m with
  | zero => simp [pv_zero]
  | succ m ih => rw [← Nat.add_assoc, pv_succ, ih, pv_succ, Nat.pow_add, Nat.mul_add, Nat.add_assoc off k m]; grind
theorem pv_lt {l : List Nat} (h : Ws l) (off k : Nat) : pv l off k < 4294967296 ^ k := val_take_lt (ws_drop h off) k
theorem pv_all {l : List Nat} {k : Nat} (h : l.length ≤ k) : pv l 0 k = val l := by simp only [pv, List.drop_zero]; exact val_take_all h
theorem pv_replicate (n off k : Nat) : pv (List.replicate n 0) off k = 0 := by
  induction k with
  | zero => exact pv_zero _ _
  | succ k ih => rw [pv_succ, ih, nth_replicate]; simp
/-- A word of a sum: what stands at the place, and what is carried on. -/
theorem inc_step {L M lb : List Nat} {off k cr s : Nat} (hM : off + k < M.length) (hs : s = cr + (nth M (off + k) + nth lb k)) (hx : nth M (off + k) = nth L (off + k))
    (hv : pv M off k + 4294967296 ^ k * cr = pv L off k + pv lb 0 k) :
    pv (M.set (off + k) (s % 4294967296)) off (k + 1) + 4294967296 ^ (k + 1) * (s / 4294967296) = pv L off (k + 1) + pv lb 0 (k + 1) := by
  rw [pv_set _ _ _ _ hM, pv_succ, pv_succ, Nat.zero_add, ← hx, Nat.pow_succ]
  have h := Nat.mod_add_div s 4294967296
  generalize s % 4294967296 = d at *
  generalize s / 4294967296 = q at *
  generalize 4294967296 ^ k = p at *
  subst hs
  have : p * (d + 4294967296 * q) = p * (cr + (nth M (off + k) + nth lb k)) := by rw [h]
  grind

theorem val_split' (l : List Nat) (k : Nat) : ∃ r, val l = pv l 0 k + 4294967296 ^ k * r := by
  by_cases h : k ≤ l.length
  · exact ⟨_, by simpa [pv] using val_split l k h⟩
  · exact ⟨0, by rw [pv_all (by omega)]; simp⟩
theorem inc_end {L M lb : List Nat} {off n cr : Nat} (hM : Ws M) (hv : pv M off n + 4294967296 ^ n * cr = pv L off n + pv lb 0 n) :
    pv M off n = (pv L off n + val lb) % 4294967296 ^ n := by
  obtain ⟨r, hr⟩ := val_split' lb n
  have h1 := pv_lt hM off n
  rw [hr, ← Nat.add_assoc, ← hv, Nat.add_mul_mod_self_left, Nat.add_mul_mod_self_left, Nat.mod_eq_of_lt h1]
theorem inc_stop {L M lb : List Nat} {off n k : Nat} (hM : Ws M) (hk : k ≤ n) (hl : lb.length ≤ k) (hs : ∀ j, off + k ≤ j → nth M j = nth L j)
    (hv : pv M off k + 4294967296 ^ k * 0 = pv L off k + pv lb 0 k) :
    pv M off n = (pv L off n + val lb) % 4294967296 ^ n := by
  have h1 := pv_lt hM off n
  have e : n = k + (n - k) := by omega
  have h2 : pv M off n = pv L off n + val lb := by
    rw [e, pv_add, pv_add, pv_congr (l := M) (m := L) (off := off + k) (fun j _ => hs _ (by omega))]
    rw [pv_all hl] at hv
    omega
  rw [← h2, Nat.mod_eq_of_lt h1]

theorem pv_eq_val {l : List Nat} {k : Nat} (h : l.length = k) : pv l 0 k = val l := pv_all (by omega)

/-- Two canonical numbers stand in order as their lengths do, or as their words from the last on do. -/
theorem val_lt_of_len {l m : List Nat} (hl : Ws l) (hm : Norm m) (hne : m ≠ []) (h : l.length < m.length) : val l < val m := by
  have h1 := val_lt hl
  obtain ⟨x, hx⟩ : ∃ x, m.getLast? = some x := by
    cases hq : m.getLast? with
    | none => exact absurd (List.getLast?_eq_none_iff.1 hq) hne
    | some x => exact ⟨x, rfl⟩
  have hx0 := hm x hx
  have hlen : m.length - 1 < m.length := by have := List.length_pos_iff.2 hne; omega
  have hget : nth m (m.length - 1) = x := by
    rw [List.getLast?_eq_getElem?] at hx
    simp [nth]; simp [hx]
  have h2 : val (m.take (m.length - 1 + 1)) = val (m.take (m.length - 1)) + 4294967296 ^ (m.length - 1) * x := by rw [val_take_succ, hget]
  rw [Nat.sub_add_cancel (by omega), List.take_length] at h2
  have h3 : 4294967296 ^ l.length ≤ 4294967296 ^ (m.length - 1) := Nat.pow_le_pow_right (by omega) (by omega)
  have h4 : 4294967296 ^ (m.length - 1) * 1 ≤ 4294967296 ^ (m.length - 1) * x := Nat.mul_le_mul_left _ (by omega)
  omega
end Go.Proofs.YtafenoohjcpjgaaGreat

/- What a slice of words reads as in a world; a block of words that a call has made; how both stand over steps of the world. -/
namespace Go.Proofs.YtafenoohjcpjgaaGreat
open Go.RowKit

/-- To stop a walk behind a law, and to go on. -/
theorem halt {p : Prop} (h : Hid p) : p := h
theorem go_on {p : Prop} (h : p) : Hid p := h

/-! ### Quiet calls in a region that draws, of contracts that name the caller's world on the left -/
theorem quiet_left {P : Program} {f : FuncId} {args : Array Value} {w : World} {n : Nat} {v : Value}
    (h : Calls P f args (w.drewN n) fun e w' => e = .returned v ∧ w.drewN n = w') : Calls P f args (w.drewN n) fun e w'' => e = .returned v ∧ ∃ m, w'' = w.drewN m :=
  h.mono fun _ _ ⟨he, hm⟩ => ⟨he, n, hm.symm⟩
/-- A word as a value. -/
def U (n : Nat) : Value := .int .u32 n

/-- At an address these cells stand in old memory (nothing is asked where there are none). -/
def Cells (w : World) (a : Option Addr) (cs : List Value) : Prop :=
  cs ≠ [] → ∃ b off, a = some ⟨b, off, none⟩ ∧ b < w.heap.size ∧ ∀ j (h : j < cs.length), w.cell? ⟨b, off + j, none⟩ = some cs[j]

/-- A slice of words. -/
def IsW (w : World) (v : Value) (l : List Nat) : Prop :=
  ∃ a cap, v = .slice a l.length cap ∧ l.length ≤ cap ∧ l.length ≤ 1073741824 ∧ Ws l ∧ Cells w a (l.map U) ∧ (l ≠ [] → ∀ x, a = some x → x.block < w.heap.size)

/-- The words of a block that is all words. -/
def Blk (w : World) (B : Nat) (e : TypeId) (l : List Nat) : Prop := w.heap[B]? = some (.cells (l.map U).toArray e (0, 0))

/-- Nothing but the block B has turned, and no block is new. -/
structure Only (B : Nat) (w w' : World) : Prop where
  os : w'.os = w.os
  tape : w'.tape = w.tape
  output : w'.output = w.output
  size : w'.heap.size = w.heap.size
  block : ∀ k, k ≠ B → w'.heap[k]? = w.heap[k]?

theorem Only.refl (B : Nat) (w : World) : Only B w w := ⟨rfl, rfl, rfl, rfl, fun _ _ => rfl⟩
theorem Only.trans {B : Nat} {a b c : World} (h : Only B a b) (k : Only B b c) : Only B a c :=
  ⟨k.os.trans h.os, k.tape.trans h.tape, k.output.trans h.output, k.size.trans h.size, fun i hi => (k.block i hi).trans (h.block i hi)⟩
theorem Only.drewN {B : Nat} {a w : World} (h : Only B a w) (n : Nat) : Only B a (w.drewN n) := ⟨h.os, h.tape, h.output, h.size, h.block⟩
theorem Only.drew {B : Nat} {a w : World} (h : Only B a w) : Only B a w.drew := ⟨h.os, h.tape, h.output, h.size, h.block⟩
theorem Only.setCell {B : Nat} {a w : World} (h : Only B a w) (i : Nat) (v : Value) : Only B a (w.setCell ⟨B, i, none⟩ v) :=
  h.trans ⟨rfl, rfl, rfl, by simp [World.setCell], fun k hk => Below.heap_setCell _ _ _ _ (by simpa using hk)⟩
theorem Only.below {B N : Nat} {w w' : World} (h : Only B w w') (hN : N ≤ B) : Below N w w' :=
  ⟨h.os, h.tape, h.output, Nat.le_of_eq h.size.symm, fun k hk => h.block k (by omega)⟩
theorem below_only {N B : Nat} {a w w' : World} (h : Below N a w) (k : Only B w w') (hN : N ≤ B) : Below N a w' := h.trans (k.below hN)

theorem below_drewN {B : Nat} {a w : World} (h : Below B a w) (n : Nat) : Below B a (w.drewN n) := ⟨h.os, h.tape, h.output, h.size, h.block⟩
theorem below_undraw {B n : Nat} {a w : World} (h : Below B (a.drewN n) w) : Below B a w := ⟨h.os, h.tape, h.output, h.size, h.block⟩
theorem below_undrew {B : Nat} {a w : World} (h : Below B a.drew w) : Below B a w := ⟨h.os, h.tape, h.output, h.size, h.block⟩
theorem below_trans' {N : Nat} {a b c : World} (h : Below N a b) (k : Below b.heap.size b c) (hN : N ≤ b.heap.size) : Below N a c := h.trans (k.mono hN)
/-- Two calls' worth: what was there before both stands. -/
theorem below_trans {a b c : World} (h : Below a.heap.size a b) (k : Below b.heap.size b c) : Below a.heap.size a c := h.trans (k.mono h.size)

/-! ### Cells -/
theorem Cells.of_blocks {w w' : World} {a : Option Addr} {cs : List Value} (h : Cells w a cs) (hs : w.heap.size ≤ w'.heap.size)
    (hb : ∀ x, a = some x → w'.heap[x.block]? = w.heap[x.block]?) : Cells w' a cs := by
  intro hne
  obtain ⟨b, off, rfl, hlt, hc⟩ := h hne
  exact ⟨b, off, rfl, by omega, fun j hj => by rw [World.cell?_of_block (w := w) (a := ⟨b, off + j, none⟩) (hb ⟨b, off, none⟩ rfl)]; exact hc j hj⟩
theorem Cells.below {w w' : World} {a : Option Addr} {cs : List Value} (h : Cells w a cs) (hb : Below w.heap.size w w') : Cells w' a cs := by
  intro hne
  obtain ⟨b, off, rfl, hlt, hc⟩ := h hne
  exact ⟨b, off, rfl, Nat.lt_of_lt_of_le hlt hb.size, fun j hj => by rw [hb.cell hlt]; exact hc j hj⟩
theorem Cells.nil (w : World) (a : Option Addr) : Cells w a [] := fun h => absurd rfl h
theorem Cells.take {w : World} {a : Option Addr} {cs : List Value} (h : Cells w a cs) (k : Nat) : Cells w a (cs.take k) := by
  intro hne
  have hne' : cs ≠ [] := by rintro rfl; simp at hne
  obtain ⟨b, off, rfl, hlt, hc⟩ := h hne'
  refine ⟨b, off, rfl, hlt, fun j hj => ?_⟩
  have hj' : j < cs.length := by rw [List.length_take] at hj; omega
  rw [hc j hj', List.getElem_take]

/-- A cell that is there stays there. -/
theorem cell_below {w w' : World} {b o : Nat} {v : Value} (hb : Below w.heap.size w w') (hc : w.cell? ⟨b, o, none⟩ = some v) : w'.cell? ⟨b, o, none⟩ = some v := by
  rw [hb.cell (p := ⟨b, o, none⟩)]
  · exact hc
  · show b < w.heap.size
    rcases Nat.lt_or_ge b w.heap.size with h | h
    · exact h
    · have hc' := hc
      simp [World.cell?, Array.getElem?_eq_none h] at hc'

/-! ### Slices of words -/
theorem IsW.below {w w' : World} {v : Value} {l : List Nat} (h : IsW w v l) (hb : Below w.heap.size w w') : IsW w' v l := by
  obtain ⟨a, cap, rfl, h1, h2, h3, h4, h5⟩ := h
  exact ⟨a, cap, rfl, h1, h2, h3, h4.below hb, fun hne x hx => Nat.lt_of_lt_of_le (h5 hne x hx) hb.size⟩
theorem IsW.only {w w' : World} {B : Nat} {v : Value} {l : List Nat} (h : IsW w v l) (hb : Only B w w') (hv : v.ownBlock ≠ some B) : IsW w' v l := by
  obtain ⟨a, cap, rfl, h1, h2, h3, h4, h5⟩ := h
  refine ⟨a, cap, rfl, h1, h2, h3, h4.of_blocks (Nat.le_of_eq hb.size.symm) ?_, fun hne x hx => by rw [hb.size]; exact h5 hne x hx⟩
  rintro x rfl
  exact hb.block _ (fun e => hv (by simp [Value.ownBlock, e]))
/-- An empty slice is empty in whatever world, wherever it points. -/
theorem IsW.empty {w w' : World} {v : Value} (h : IsW w v []) : IsW w' v [] := by
  obtain ⟨a, cap, rfl, h1, h2, h3, h4, h5⟩ := h
  exact ⟨a, cap, rfl, h1, h2, h3, Cells.nil _ _, fun hne => absurd rfl hne⟩
theorem IsW.only0 {w w' : World} {B : Nat} {v : Value} {l : List Nat} (h : IsW w v l) (hb : Only B w w') (hv : l ≠ [] → v.ownBlock ≠ some B) : IsW w' v l := by
  by_cases hl : l = []
  · subst hl; exact h.empty
  · exact h.only hb (hv hl)
theorem IsW.drewN {w : World} {v : Value} {l : List Nat} (h : IsW w v l) (n : Nat) : IsW (w.drewN n) v l := h
theorem IsW.drew {w : World} {v : Value} {l : List Nat} (h : IsW w v l) : IsW w.drew v l := h
theorem IsW.ws {w : World} {v : Value} {l : List Nat} (h : IsW w v l) : Ws l := by obtain ⟨_, _, _, _, _, h, _, _⟩ := h; exact h
theorem IsW.len {w : World} {v : Value} {l : List Nat} (h : IsW w v l) : l.length ≤ 1073741824 := by obtain ⟨_, _, _, _, h, _, _, _⟩ := h; exact h
theorem IsW.nil (w : World) : IsW w (.slice none 0 0) [] := ⟨none, 0, rfl, Nat.zero_le _, by simp, ws_nil, Cells.nil _ _, fun h => absurd rfl h⟩
/-- The block of a slice of words lies in the world. -/
theorem IsW.own_lt {w : World} {v : Value} {l : List Nat} (h : IsW w v l) (hne : l ≠ []) : ∀ b, v.ownBlock = some b → b < w.heap.size := by
  obtain ⟨a, cap, rfl, h1, h2, h3, h4, h5⟩ := h
  intro b hb
  cases a with
  | none => simp [Value.ownBlock] at hb
  | some x => simp [Value.ownBlock] at hb; subst hb; exact h5 hne x rfl
theorem IsW.own_ne {w : World} {v : Value} {l : List Nat} (h : IsW w v l) {B : Nat} (hB : w.heap.size ≤ B) : l ≠ [] → v.ownBlock ≠ some B := fun hne e => by have := h.own_lt hne B e; omega
/-- A word of a slice, read. -/
theorem IsW.cell {w : World} {b off : Nat} {n cap : Nat} {l : List Nat} (h : IsW w (.slice (some ⟨b, off, none⟩) n cap) l) (j : Nat) (hj : j < l.length) :
    w.cell? ⟨b, off + j, none⟩ = some (.int .u32 (nth l j)) := by
  obtain ⟨a, cap', hv, h1, h2, h3, h4, h5⟩ := h
  cases hv
  obtain ⟨b', off', he, hlt, hc⟩ := h4 (by intro e; simp at e; subst e; simp at hj)
  cases he
  rw [hc j (by simpa using hj)]
  simp [U, nth, List.getD_eq_getElem?_getD, List.getElem?_eq_getElem hj]

theorem IsW.take {w : World} {a : Option Addr} {n cap : Nat} {l : List Nat} (h : IsW w (.slice a n cap) l) (k c : Nat) (hk : k ≤ l.length) (hc : k ≤ c) : IsW w (.slice a k c) (l.take k) := by
  obtain ⟨a', cap', hv, h1, h2, h3, h4, h5⟩ := h
  cases hv
  have e : (l.take k).length = k := by simp; omega
  refine ⟨a, c, by rw [e], by omega, by omega, ws_take h3 k, ?_⟩
  rw [List.map_take]
  exact ⟨h4.take k, fun hne => h5 (fun e => hne (by rw [e]; simp))⟩

theorem IsW.drop {w : World} {b off n cap : Nat} {l : List Nat} (h : IsW w (.slice (some ⟨b, off, none⟩) n cap) l) (k m c : Nat) (hk : k ≤ l.length) (hm : m = l.length - k) (hc : m ≤ c) :
    IsW w (.slice (some ⟨b, off + k, none⟩) m c) (l.drop k) := by
  have hcell := h.cell
  obtain ⟨a', cap', hv, h1, h2, h3, h4, h5⟩ := h
  cases hv
  have e : (l.drop k).length = m := by simp; omega
  refine ⟨some ⟨b, off + k, none⟩, c, by rw [e], by omega, by omega, ws_drop h3 k, ?_, fun hne x hx => by cases hx; exact h5 (fun e => hne (by rw [e]; simp)) ⟨b, off, none⟩ rfl⟩
  intro hne
  refine ⟨b, off + k, rfl, h5 (fun e => hne (by rw [e]; simp)) ⟨b, off, none⟩ rfl, fun j hj => ?_⟩
  rw [List.length_map, e] at hj
  have := hcell (k + j) (by omega)
  rw [Nat.add_assoc, this]
  simp [U, nth, List.getD_eq_getElem?_getD, List.getElem?_eq_getElem (show k + j < l.length by omega)]

/-! ### Blocks of words -/
theorem Blk.lt {w : World} {B : Nat} {e : TypeId} {l : List Nat} (h : Blk w B e l) : B < w.heap.size := lt_of_block h
theorem Blk.cell {w : World} {B : Nat} {e : TypeId} {l : List Nat} (h : Blk w B e l) (j : Nat) (hj : j < l.length) :
    w.cell? ⟨B, j, none⟩ = some (.int .u32 (nth l j)) := by
  have h' : w.heap[B]? = some (.cells (l.map U).toArray e (0, 0)) := h
  simp [World.cell?, h', U, nth, List.getD_eq_getElem?_getD, List.getElem?_eq_getElem hj]
theorem Blk.free {w : World} {B : Nat} {e : TypeId} {l : List Nat} (h : Blk w B e l) (j : Nat) : w.frozen? ⟨B, j, none⟩ = false := by
  have h' : w.heap[B]? = some (.cells (l.map U).toArray e (0, 0)) := h
  simp [World.frozen?, h']
theorem Blk.setCell {w : World} {B : Nat} {e : TypeId} {l : List Nat} (h : Blk w B e l) (k x : Nat) (v : Value) (hv : v = U x) : Blk (w.setCell ⟨B, k, none⟩ v) B e (l.set k x) := by
  have h' : w.heap[B]? = some (.cells (l.map U).toArray e (0, 0)) := h
  subst hv
  simp [Blk, World.setCell, Array.getElem?_modify, h', List.map_set]
theorem Blk.below {N : Nat} {w w' : World} {B : Nat} {e : TypeId} {l : List Nat} (h : Blk w B e l) (hb : Below N w w') (hN : B < N) : Blk w' B e l := by
  unfold Blk; rw [hb.block B hN]; exact h
theorem Blk.only {w w' : World} {B C : Nat} {e : TypeId} {l : List Nat} (h : Blk w B e l) (hb : Only C w w') (hN : B ≠ C) : Blk w' B e l := by
  unfold Blk; rw [hb.block B hN]; exact h
theorem Blk.drewN {w : World} {B : Nat} {e : TypeId} {l : List Nat} (h : Blk w B e l) (n : Nat) : Blk (w.drewN n) B e l := h
theorem Blk.drew {w : World} {B : Nat} {e : TypeId} {l : List Nat} (h : Blk w B e l) : Blk w.drew B e l := h
/-- A part of a block of words is a slice of words. -/
theorem Blk.isW {w : World} {B : Nat} {e : TypeId} {l : List Nat} (h : Blk w B e l) (hw : Ws l) (off n cap : Nat) (hn : off + n ≤ l.length) (hc : n ≤ cap) (hl : n ≤ 1073741824) :
    IsW w (.slice (some ⟨B, off, none⟩) n cap) ((l.drop off).take n) := by
  have hlen : ((l.drop off).take n).length = n := by simp; omega
  refine ⟨some ⟨B, off, none⟩, cap, by rw [hlen], by omega, by omega, ws_take (ws_drop hw _) _, fun _ => ⟨B, off, rfl, h.lt, fun j hj => ?_⟩, fun _ x hx => by cases hx; exact h.lt⟩
  rw [List.length_map, hlen] at hj
  rw [h.cell (off + j) (by omega)]
  simp [U, nth, List.getD_eq_getElem?_getD, List.getElem?_eq_getElem (show off + j < l.length by omega)]
theorem Blk.isW_all {w : World} {B : Nat} {e : TypeId} {l : List Nat} (h : Blk w B e l) (hw : Ws l) (cap : Nat) (hc : l.length ≤ cap) (hl : l.length ≤ 1073741824) :
    IsW w (.slice (some ⟨B, 0, none⟩) l.length cap) l := by
  have := h.isW hw 0 l.length cap (by omega) hc hl
  simpa using this

/-! ### Making -/
theorem madeCells_one (z : Value) (n : Nat) : madeCells #[z] n = (List.replicate n z).toArray := by
  apply Array.ext'
  rw [toList_madeCells_one]

theorem wpList_make_words {P : Program} {w : World} {ops : Array Oper} {rest : List Oper} {o : Oper} {a : Act} {Q : Exit → Act → World → Prop}
    (hg : o.guard = none) (l c : Operand) (t e : TypeId) (hop : o.op = Op.makeSlice t l c) (h1 : P.underlying t = some (.slice e))
    (h2 : (P.info? e).map (fun i => (i.zero, i.size, i.bytes)) = some (some (.int .u32 0), 1, 4)) (n : Nat) (hl : a.eval l = .int .i64 n) (hc : a.eval c = .int .i64 n) (hn : n ≤ 1073741824)
    (hK : ∀ w', Blk w' w.heap.size e (List.replicate n 0) → Below w.heap.size w w' → Hid (w'.heap.size = w.heap.size + 1) → wpList P ops Q rest (a.put o.dst (.slice (some ⟨w.heap.size, 0, none⟩) n n)) w') :
    wpList P ops Q (o :: rest) a w := by
  obtain ⟨i, hi, hz, hs, hb⟩ := info_parts h2
  refine wpList_plain hg fun K hK' => ?_
  have hr := run_make (P := P) w t e i _ h1 hi hz .i64 .i64 n n (by omega) (Int.le_refl _) (by rw [hb]; omega) (by omega)
  simp only [Int.toNat_natCast, hs, Value.cells, madeCells_one, Nat.mul_one] at hr
  unfold Oper.wp
  simp [execOp, hop, hl, hc, hr, Result.andThen]
  refine hK' _ _ (hK _ ?_ ((Below.refl _ _).alloc (Nat.le_refl _) _) (Lib.hid (by simp)))
  show (w.heap.push _)[w.heap.size]? = _
  simp [U]

/-- The same, where the size stands there as a sum. -/
theorem wpList_make_words' {P : Program} {w : World} {ops : Array Oper} {rest : List Oper} {o : Oper} {a : Act} {Q : Exit → Act → World → Prop}
    (hg : o.guard = none) (l c : Operand) (t e : TypeId) (hop : o.op = Op.makeSlice t l c) (h1 : P.underlying t = some (.slice e))
    (h2 : (P.info? e).map (fun i => (i.zero, i.size, i.bytes)) = some (some (.int .u32 0), 1, 4)) (n : Nat) (L C : Int) (hl : a.eval l = .int .i64 L) (hc : a.eval c = .int .i64 C) (hL : L = n) (hC : C = n) (hn : n ≤ 1073741824)
    (hK : ∀ w', Blk w' w.heap.size e (List.replicate n 0) → Below w.heap.size w w' → Hid (w'.heap.size = w.heap.size + 1) → wpList P ops Q rest (a.put o.dst (.slice (some ⟨w.heap.size, 0, none⟩) n n)) w') :
    wpList P ops Q (o :: rest) a w := by
  subst hL hC; exact wpList_make_words hg l c t e hop h1 h2 n hl hc hn hK

/-! ### Copying -/
theorem u_oneCell (l : List Nat) : ∀ u ∈ l.map U, u.oneCell' = true := by
  intro u hu
  obtain ⟨_, _, rfl⟩ := List.mem_map.1 hu
  rfl

/-- A guard: the next operation is a copy. -/
theorem at_copy {P : Program} {w : World} {ops : Array Oper} {rest : List Oper} {dst : Option Tmp} {type : TypeId} {pos : String} {after : Array Edge} {guard : Option (Nat × Bool)} {args : Array Operand} {ts : Array TypeId} {a : Act} {Q : Exit → Act → World → Prop}
    (h : wpList P ops Q (⟨dst, .call { callee := .builtin .copy, args := args, argTypes := ts }, type, pos, after, guard⟩ :: rest) a w) : wpList P ops Q (⟨dst, .call { callee := .builtin .copy, args := args, argTypes := ts }, type, pos, after, guard⟩ :: rest) a w := h

/-- 'copy' of words into a block that is all words. -/
theorem wpList_copy_words {P : Program} {w : World} {ops : Array Oper} {rest : List Oper} {o : Oper} {a : Act} {Q : Exit → Act → World → Prop} (hgd : o.guard = none) (d s : Operand) (dT sT : TypeId)
    (ho : o.op = .call { callee := .builtin .copy, args := #[d, s], argTypes := #[dT, sT] }) (elem : TypeId) (hu : P.underlying dT = some (.slice elem)) (hsz : (P.info? elem).map (·.size) = some 1)
    (g off dLen dCap : Nat) (v : Value) (l cur : List Nat) (e : TypeId) (hd : a.eval d = .slice (some ⟨g, off, none⟩) dLen dCap) (hs : a.eval s = v) (hv : IsW w v l) (hb : Blk w g e cur)
    (hle : l.length ≤ dLen) (hfit : off + l.length ≤ cur.length)
    (h : ∀ w', Blk w' g e (cur.take off ++ (l ++ cur.drop (off + l.length))) → Only g w w' → wpList P ops Q rest (a.put o.dst (goInt l.length)) w') :
    wpList P ops Q (o :: rest) a w := by
  obtain ⟨sa, cap, rfl, h1, h2, h3, h4, h5⟩ := hv
  by_cases h0 : l = []
  · subst h0
    refine wpList_copy_nothing hgd d s dT sT ho elem hu hsz _ sa dLen dCap 0 cap hd hs (by simp) ?_
    exact h w (by simpa using hb) (Only.refl _ _)
  · obtain ⟨b, so, rfl, hlt, hc⟩ := h4 (by simpa using h0)
    have hmin : (l.map U).length = Nat.min l.length dLen := by rw [List.length_map]; exact (Nat.min_eq_left hle).symm
    refine wpList_copy_own hgd d s dT sT ho elem hu hsz g off dLen dCap ⟨b, so, none⟩ l.length cap hd hs (cur.map U).toArray e hb (l.map U) hmin ?_ (by simpa using hfit) (u_oneCell l) ?_
    · intro j x hj
      obtain ⟨hj1, hj2⟩ := List.getElem?_eq_some_iff.1 hj
      rw [Addr.add_lit, hc j hj1, hj2]
    · rw [List.length_map]
      refine h _ ?_ ⟨rfl, rfl, rfl, by simp [World.setRow], fun k hk => setRow_other w g k _ hk⟩
      show _ = _
      rw [setRow_heap w g _ _ e _ hb]
      simp [List.map_take, List.map_drop]

/-- A struct's own block never holds the words of a slice: so a store into it leaves every slice of words. -/
theorem IsW.other {w w' : World} {v : Value} {l : List Nat} {B : Nat} {cs : Array Value} {t : TypeId} {fr : Nat × Nat} (h : IsW w v l) (hB : w.heap[B]? = some (.cells cs t fr))
    (hcs : ∀ (j k : Nat), cs[j]? ≠ some (U k)) (ho : Only B w w') : IsW w' v l := by
  by_cases hv : v.ownBlock = some B
  · obtain ⟨a, cap, rfl, h1, h2, h3, h4, h5⟩ := h
    cases l with
    | nil => exact ⟨a, cap, rfl, h1, h2, h3, Cells.nil _ _, fun hne => absurd rfl hne⟩
    | cons k ks =>
      exfalso
      obtain ⟨b, off, rfl, hlt, hc⟩ := h4 (by simp)
      have e : b = B := by simpa [Value.ownBlock] using hv
      subst e
      have h9 := hc 0 (by simp)
      rw [cell_of_row _ _ _ _ _ _ hB] at h9
      exact hcs _ k h9
  · exact h.only ho hv
theorem num_cells9 {u : Value} {b : Bool} (hu : ∃ a n c, u = .slice a n c) : ∀ (j k : Nat), (#[u, .bool b] : Array Value)[j]? ≠ some (U k) := by
  obtain ⟨a, n, c, rfl⟩ := hu
  intro j k h
  match j, h with
  | 0, h => simp [U] at h
  | 1, h => simp [U] at h
  | (j + 2), h => simp at h
end Go.Proofs.YtafenoohjcpjgaaGreat
