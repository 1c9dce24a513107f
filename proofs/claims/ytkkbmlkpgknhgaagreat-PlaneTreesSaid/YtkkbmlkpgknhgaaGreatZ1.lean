import Derived.Below
import Derived.WalkKit
import Derived.WalkSpells
import Derived.WalkLawsBesides
import Derived.Lib.Hide
import Derived.Laws.CopyOwn
import Derived.BigQuiet
import Derived.Deep.QuietTactic
import Derived.Deep.RegionHeld3
import Derived.Test.YtkkbmlkpgknhgaaGreatRows
set_option maxRecDepth 100000
set_option maxHeartbeats 16000000
namespace Go.Proofs.YtkkbmlkpgknhgaaGreat
variable {B N cap cr i k n off p q x : Nat} {L M l lb m : List Nat} {a b c w w' : World} {u v : Value}
def Hi (p : Prop) : Prop := p
theorem Hi.o {p : Prop} (h : Hi p) : p := h
theorem Hi.out {p : Prop} (h : Hi p) : p := h
theorem hdd {p : Prop} (h : p) : Hi p := h
theorem qx {α : Type} (e : α) : ∃ x, x = e := ⟨_, rfl⟩
theorem qm {n : Nat} : n ≤ n := Nat.le_refl n

def val : List Nat → Nat
 | [] => 0
 | x :: l => x + 4294967296 * val l

def nth (l : List Nat) (k : Nat) : Nat := l.getD k 0

def Ws (l : List Nat) : Prop := ∀ x ∈ l, x < 4294967296

def q2q (n : Nat) : List Nat := if h : n = 0 then [] else (n % 4294967296) :: q2q (n / 4294967296)
termination_by n
decreasing_by omega

theorem y7q : q2q 0 = [] := by unfold q2q; simp
theorem k1q (h : n ≠ 0) : q2q n = (n % 4294967296) :: q2q (n / 4294967296) := by rw [q2q]; simp [h]

theorem j6q (n : Nat) : val (q2q n) = n := by
 induction n using Nat.strongRecOn with
 | _ n ih =>
  by_cases h : n = 0
  ·
   subst h; simp [y7q, val]
  ·
   rw [k1q h, val, ih _ (by omega)]; omega

theorem s5q (n : Nat) : Ws (q2q n) := by
 induction n using Nat.strongRecOn with
 | _ n ih =>
  by_cases h : n = 0
  ·
   subst h; simp [y7q, Ws]
  ·
   rw [k1q h]
   intro x hx
   rcases List.mem_cons.1 hx with rfl | hx
   ·
    omega
   ·
    exact ih _ (by omega) x hx

theorem l9q : q2q n = [] ↔ n = 0 := by
 constructor
 ·
  intro h; have := j6q n; rw [h] at this; simpa [val] using this.symm
 ·
  rintro rfl; exact y7q

def n8q (l : List Nat) : Prop := ∀ x, l.getLast? = some x → x ≠ 0

theorem n0q (n : Nat) : n8q (q2q n) := by
 induction n using Nat.strongRecOn with
 | _ n ih =>
  by_cases h : n = 0
  ·
   subst h; simp [y7q, n8q]
  ·
   rw [k1q h]
   intro x hx
   by_cases h2 : n / 4294967296 = 0
   ·
    rw [h2, y7q] at hx; simp at hx; omega
   ·
    have h3 : q2q (n / 4294967296) ≠ [] := fun e => h2 (l9q.1 e)
    rw [List.getLast?_cons_of_ne_nil h3] at hx
    exact ih _ (by omega) x hx

theorem z9y : Ws (x :: l) ↔ x < 4294967296 ∧ Ws l := by simp [Ws]

theorem r7q (l : List Nat) : Ws l → n8q l → q2q (val l) = l := by
 induction l with
 | nil => intro _ _; simp [val, y7q]
 | cons x l ih =>
  intro hw hn
  obtain ⟨hx, hl⟩ := z9y.1 hw
  have hn' : n8q l := by
   intro y hy
   refine hn y ?_
   have : l ≠ [] := by rintro rfl; simp at hy
   rw [List.getLast?_cons_of_ne_nil this]; exact hy
  have hne : val (x :: l) ≠ 0 := by
   intro h0
   simp only [val] at h0
   have hx0 : x = 0 := by omega
   have hv : val l = 0 := by omega
   have := ih hl hn'
   rw [hv, y7q] at this
   subst this; subst hx0
   exact hn 0 (by simp) rfl
  rw [k1q hne]
  simp only [val]
  rw [show (x + 4294967296 * val l) % 4294967296 = x from by omega, show (x + 4294967296 * val l) / 4294967296 = val l from by omega, ih hl hn']

theorem o4q (l m : List Nat) : val (l ++ m) = val l + 4294967296 ^ l.length * val m := by
 induction l with
 | nil => simp [val]
 | cons x l ih => simp only [List.cons_append, val, ih, List.length_cons, Nat.pow_succ]; grind

theorem m0q (h : Ws l) : val l < 4294967296 ^ l.length := by
 induction l with
 | nil => simp [val]
 | cons x l ih =>
  obtain ⟨hx, hl⟩ := z9y.1 h
  have := ih hl
  simp only [val, List.length_cons, Nat.pow_succ]
  omega

theorem q9y (h : Ws l) (k : Ws m) : Ws (l ++ m) := by
 intro x hx; rcases List.mem_append.1 hx with h1 | h1
 ·
  exact h x h1
 ·
  exact k x h1

theorem j2z (h : Ws l) (k : Nat) : Ws (l.take k) := fun x hx => h x (List.mem_of_mem_take hx)
theorem j2j (h : Ws l) (k : Nat) : Ws (l.drop k) := fun x hx => h x (List.mem_of_mem_drop hx)
theorem u0q (h : Ws l) (k : Nat) {x : Nat} (hx : x < 4294967296) : Ws (l.set k x) := by
 intro y hy
 rcases List.mem_or_eq_of_mem_set hy with h1 | h1
 ·
  exact h y h1
 ·
  subst h1; exact hx
theorem u4q (n : Nat) : Ws (List.replicate n 0) := by intro x hx; rw [List.mem_replicate] at hx; omega
theorem x2k : Ws [] := by intro x hx; simp at hx
theorem y1q (h : Ws l) (k : Nat) : nth l k < 4294967296 := by
 unfold nth
 rw [List.getD_eq_getElem?_getD]
 cases hk : l[k]? with
 | none => simp
 | some x => simpa using h x (List.mem_of_getElem? hk)

theorem d4q (l : List Nat) (k : Nat) : val (l.take (k + 1)) = val (l.take k) + 4294967296 ^ k * nth l k := by
 unfold nth
 by_cases h : k < l.length
 ·
  rw [List.take_succ_eq_append_getElem h, o4q]
  simp only [val, List.length_take, Nat.min_eq_left (Nat.le_of_lt h), List.getD_eq_getElem?_getD, List.getElem?_eq_getElem h, Option.getD_some]
  simp
 ·
  rw [List.take_of_length_le (by omega), List.take_of_length_le (by omega), List.getD_eq_getElem?_getD, List.getElem?_eq_none (by omega)]
  simp

theorem y3j (l : List Nat) : val (l.take 0) = 0 := by simp [val]
theorem j8w (h : l.length ≤ k) : val (l.take k) = val l := by rw [List.take_of_length_le h]
theorem q9z (l : List Nat) (k : Nat) (h : k ≤ l.length) : val l = val (l.take k) + 4294967296 ^ k * val (l.drop k) := by
 conv => lhs; rw [← List.take_append_drop k l]
 rw [o4q, List.length_take, Nat.min_eq_left h]
theorem l8q (l : List Nat) (k : Nat) : val (l.drop k) = nth l k + 4294967296 * val (l.drop (k + 1)) := by
 unfold nth
 by_cases h : k < l.length
 ·
  rw [List.drop_eq_getElem_cons h]
  simp [val, List.getD_eq_getElem?_getD, List.getElem?_eq_getElem h]
 ·
  rw [List.drop_eq_nil_of_le (by omega), List.drop_eq_nil_of_le (by omega), List.getD_eq_getElem?_getD, List.getElem?_eq_none (by omega)]
  simp [val]

theorem q1z (h : Ws l) (k : Nat) : val (l.take k) < 4294967296 ^ k := by
 have h1 := m0q (j2z h k)
 refine Nat.lt_of_lt_of_le h1 (Nat.pow_le_pow_right (by omega) ?_)
 rw [List.length_take]; omega

theorem w2q (l : List Nat) (k x : Nat) (h : k < l.length) : nth (l.set k x) k = x := by
 simp [nth, List.getD_eq_getElem?_getD, h]
theorem u8q (l : List Nat) (k j x : Nat) (h : j ≠ k) : nth (l.set k x) j = nth l j := by
 simp [nth, List.getD_eq_getElem?_getD, List.getElem?_set_ne (Ne.symm h)]
theorem p5q (h : l.length ≤ i) : nth l i = 0 := by
 unfold nth; rw [List.getD_eq_getElem?_getD, List.getElem?_eq_none h]; rfl
theorem r1q (h : i < l.length) : nth l i = l[i] := by
 simp [nth, List.getD_eq_getElem?_getD, h]
theorem z2y (h : i < k) : nth (l.take k) i = nth l i := by
 simp [nth, List.getD_eq_getElem?_getD, List.getElem?_take_of_lt h]
theorem j3h (l : List Nat) (i k : Nat) : nth (l.drop k) i = nth l (k + i) := by
 simp [nth, List.getD_eq_getElem?_getD]
theorem e3q (n i : Nat) : nth (List.replicate n 0) i = 0 := by
 simp only [nth, List.getD_eq_getElem?_getD, List.getElem?_replicate]; split <;> rfl
theorem q2h (n : Nat) : val (List.replicate n 0) = 0 := by
 induction n with
 | zero => simp [val]
 | succ n ih => rw [List.replicate_succ]; simp [val, ih]

theorem j7y (hk : k ≤ l.length) (h : k = 0 ∨ nth l (k - 1) ≠ 0) : n8q (l.take k) := by
 intro x hx
 rcases Nat.eq_zero_or_pos k with h0 | h0
 ·
  subst h0; simp at hx
 ·
  rw [List.getLast?_eq_getElem?, List.length_take, Nat.min_eq_left hk, List.getElem?_take_of_lt (by omega), List.getElem?_eq_getElem (by omega)] at hx
  have hne := h.resolve_left (by omega)
  rw [r1q (by omega)] at hne
  cases hx; exact hne
theorem q8z (hw : Ws l) (hk : k ≤ l.length) (h : k = 0 ∨ nth l (k - 1) ≠ 0) (hv : val (l.take k) = val l) : q2q (val l) = l.take k := by
 rw [← hv]; exact r7q _ (j2z hw k) (j7y hk h)
theorem q9w (hw : Ws l) : q2q (val l) = l.take (q2q (val l)).length := by
 induction l with
 | nil => simp [val, y7q]
 | cons x l ih =>
  obtain ⟨hx, hl⟩ := z9y.1 hw
  by_cases h : val (x :: l) = 0
  ·
   rw [h, y7q]; simp
  ·
   rw [k1q h]
   simp only [val]
   rw [show (x + 4294967296 * val l) % 4294967296 = x from by omega, show (x + 4294967296 * val l) / 4294967296 = val l from by omega, List.length_cons, List.take_succ_cons, ← ih hl]
theorem o8q (hn : n8q l) (h : l ≠ []) : nth l (l.length - 1) ≠ 0 := by
 have hlen : l.length - 1 < l.length := by have := List.length_pos_iff.2 h; omega
 refine hn _ ?_
 rw [List.getLast?_eq_getElem?, List.getElem?_eq_getElem hlen, r1q hlen]

theorem x0q : (q2q n).length ≤ k ↔ n < 4294967296 ^ k := by
 induction k generalizing n with
 | zero =>
  by_cases h : n = 0
  ·
   subst h; simp [y7q]
  ·
   simp [k1q h]; omega
 | succ k ih =>
  by_cases h : n = 0
  ·
   subst h; simp [y7q]; exact Nat.pos_of_ne_zero (by simp)
  ·
   rw [k1q h, List.length_cons, Nat.add_le_add_iff_right, ih, Nat.pow_succ]
   exact Nat.div_lt_iff_lt_mul (by omega)
theorem z6q {m : Nat} (h : m ≤ n) : (q2q m).length ≤ (q2q n).length :=
 x0q.2 (Nat.lt_of_le_of_lt h (x0q.1 qm))
theorem k5q (n : Nat) : n < 4294967296 ^ (q2q n).length := x0q.1 qm
theorem k2q (m n : Nat) : (q2q (m * n)).length ≤ (q2q m).length + (q2q n).length := by
 rw [x0q, Nat.pow_add]
 exact Nat.mul_lt_mul'' (k5q m) (k5q n)
theorem i9q (m n : Nat) (k : Nat) (h1 : (q2q m).length ≤ k) (h2 : (q2q n).length ≤ k) : (q2q (m + n)).length ≤ k + 1 := by
 rw [x0q] at *
 rw [Nat.pow_succ]; omega
theorem j7j (h : Ws l) : (q2q (val l)).length ≤ l.length := x0q.2 (m0q h)

def pv (l : List Nat) (off k : Nat) : Nat := val ((l.drop off).take k)
theorem x2q (l : List Nat) (off : Nat) : pv l off 0 = 0 := by simp [pv, val]
theorem v2q (l : List Nat) (off k : Nat) : pv l off (k + 1) = pv l off k + 4294967296 ^ k * nth l (off + k) := by
 unfold pv; rw [d4q, j3h]
theorem l1q : ∀ {k : Nat}, (∀ j, j < k → nth l (off + j) = nth m (off + j)) → pv l off k = pv m off k
 | 0, _ => by rw [x2q, x2q]
 | k + 1, h => by rw [v2q, v2q, l1q (k := k) (fun j hj => h j (by omega)), h k (by omega)]
theorem d0q (l : List Nat) (off k x : Nat) (h : off + k < l.length) : pv (l.set (off + k) x) off (k + 1) = pv l off k + 4294967296 ^ k * x := by
 rw [v2q, w2q _ _ _ h, l1q (m := l) (fun j hj => u8q _ _ _ _ (by omega))]
theorem o1q (l : List Nat) (off k m : Nat) : pv l off (k + m) = pv l off k + 4294967296 ^ k * pv l (off + k) m := by
 induction m with
 | zero => simp [x2q]
 | succ m ih => rw [← Nat.add_assoc, v2q, ih, v2q, Nat.pow_add, Nat.mul_add, Nat.add_assoc off k m]; grind
theorem l2q (h : Ws l) (off k : Nat) : pv l off k < 4294967296 ^ k := q1z (j2j h off) k
theorem w4q (h : l.length ≤ k) : pv l 0 k = val l := by simp only [pv, List.drop_zero]; exact j8w h
theorem o2q (n off k : Nat) : pv (List.replicate n 0) off k = 0 := by
 induction k with
 | zero => exact x2q _ _
 | succ k ih => rw [v2q, ih, e3q]; simp
theorem j3v {s : Nat} (hM : off + k < M.length) (hs : s = cr + (nth M (off + k) + nth lb k)) (hx : nth M (off + k) = nth L (off + k))
  (hv : pv M off k + 4294967296 ^ k * cr = pv L off k + pv lb 0 k) :
  pv (M.set (off + k) (s % 4294967296)) off (k + 1) + 4294967296 ^ (k + 1) * (s / 4294967296) = pv L off (k + 1) + pv lb 0 (k + 1) := by
 rw [d0q _ _ _ _ hM, v2q, v2q, Nat.zero_add, ← hx, Nat.pow_succ]
 have h := Nat.mod_add_div s 4294967296
 generalize s % 4294967296 = d at *
 generalize s / 4294967296 = q at *
 generalize 4294967296 ^ k = p at *
 subst hs
 have : p * (d + 4294967296 * q) = p * (cr + (nth M (off + k) + nth lb k)) := by rw [h]
 grind

theorem j5j (l : List Nat) (k : Nat) : ∃ r, val l = pv l 0 k + 4294967296 ^ k * r := by
 by_cases h : k ≤ l.length
 ·
  exact ⟨_, by simpa [pv] using q9z l k h⟩
 ·
  exact ⟨0, by rw [w4q (by omega)]; simp⟩
theorem v5h (hM : Ws M) (hv : pv M off n + 4294967296 ^ n * cr = pv L off n + pv lb 0 n) :
  pv M off n = (pv L off n + val lb) % 4294967296 ^ n := by
 obtain ⟨r, hr⟩ := j5j lb n
 have h1 := l2q hM off n
 rw [hr, ← Nat.add_assoc, ← hv, Nat.add_mul_mod_self_left, Nat.add_mul_mod_self_left, Nat.mod_eq_of_lt h1]
theorem x4z (hM : Ws M) (hk : k ≤ n) (hl : lb.length ≤ k) (hs : ∀ j, off + k ≤ j → nth M j = nth L j)
  (hv : pv M off k + 4294967296 ^ k * 0 = pv L off k + pv lb 0 k) :
  pv M off n = (pv L off n + val lb) % 4294967296 ^ n := by
 have h1 := l2q hM off n
 have e : n = k + (n - k) := by omega
 have h2 : pv M off n = pv L off n + val lb := by
  rw [e, o1q, o1q, l1q (l := M) (m := L) (off := off + k) (fun j _ => hs _ (by omega))]
  rw [w4q hl] at hv
  omega
 rw [← h2, Nat.mod_eq_of_lt h1]

theorem y8q (h : l.length = k) : pv l 0 k = val l := w4q (by omega)

theorem q1x (x k : Nat) : (q2q x).drop k = q2q (x / 4294967296 ^ k) := by
 induction k generalizing x with
 | zero => simp
 | succ k ih =>
  by_cases h : x = 0
  ·
   subst h; simp [y7q]
  ·
   rw [k1q h, List.drop_succ_cons, ih, Nat.pow_succ, Nat.div_div_eq_div_mul, Nat.mul_comm]
theorem j5x (x k : Nat) : val ((q2q x).take k) = x % 4294967296 ^ k := by
 obtain ⟨r, hr⟩ := j5j (q2q x) k
 have h := l2q (s5q x) 0 k
 rw [j6q] at hr
 have e : pv (q2q x) 0 k = val ((q2q x).take k) := by simp [pv]
 rw [e] at hr h
 have h2 := congrArg (· % 4294967296 ^ k) hr
 simp only [Nat.add_mul_mod_self_left, Nat.mod_eq_of_lt h] at h2
 exact h2.symm

theorem j6w {L' : List Nat} {z : Nat} (hlen : L'.length = L.length) (hn : off + n = L.length) (hsame : ∀ j, (j < off ∨ off + n ≤ j) → nth L' j = nth L j)
  (hv : pv L' off n = (pv L off n + z) % 4294967296 ^ n) (hroom : val L + 4294967296 ^ off * z < 4294967296 ^ L.length) : val L' = val L + 4294967296 ^ off * z := by
 have e1 : val L = pv L 0 off + 4294967296 ^ off * pv L off n := by
  rw [← y8q (k := off + n) hn.symm, o1q, Nat.zero_add]
 have e2 : val L' = pv L' 0 off + 4294967296 ^ off * pv L' off n := by
  rw [← y8q (k := off + n) (by omega), o1q, Nat.zero_add]
 have e3 : pv L' 0 off = pv L 0 off := l1q (fun j hj => by rw [Nat.zero_add]; exact hsame j (Or.inl hj))
 have hlt : pv L off n + z < 4294967296 ^ n := by
  rw [e1, ← hn, Nat.pow_add] at hroom
  have : 4294967296 ^ off * (pv L off n + z) < 4294967296 ^ off * 4294967296 ^ n := by
   rw [Nat.mul_add]; omega
  exact Nat.lt_of_mul_lt_mul_left this
 rw [e2, e3, hv, Nat.mod_eq_of_lt hlt, e1, Nat.mul_add]; omega

theorem e6q (hl : Ws l) (hm : n8q m) (hne : m ≠ []) (h : l.length < m.length) : val l < val m := by
 have h1 := m0q hl
 obtain ⟨x, hx⟩ : ∃ x, m.getLast? = some x := by
  cases hq : m.getLast? with
  | none => exact absurd (List.getLast?_eq_none_iff.1 hq) hne
  | some x => exact ⟨x, rfl⟩
 have hx0 := hm x hx
 have hlen : m.length - 1 < m.length := by have := List.length_pos_iff.2 hne; omega
 have hget : nth m (m.length - 1) = x := by
  rw [List.getLast?_eq_getElem?] at hx
  simp [nth]; simp [hx]
 have h2 : val (m.take (m.length - 1 + 1)) = val (m.take (m.length - 1)) + 4294967296 ^ (m.length - 1) * x := by rw [d4q, hget]
 rw [Nat.sub_add_cancel (by omega), List.take_length] at h2
 have h3 : 4294967296 ^ l.length ≤ 4294967296 ^ (m.length - 1) := Nat.pow_le_pow_right (by omega) (by omega)
 have h4 : 4294967296 ^ (m.length - 1) * 1 ≤ 4294967296 ^ (m.length - 1) * x := Nat.mul_le_mul_left _ (by omega)
 omega
end Go.Proofs.YtkkbmlkpgknhgaaGreat
namespace Go.Proofs.YtkkbmlkpgknhgaaGreat
open Go.RowKit
variable {B N cap cr i k n off p q x : Nat} {L M l lb m : List Nat} {a b c w w' : World} {u v : Value}
theorem jq {P : Program} {ops : Array Oper} {Q : Exit → Act → World → Prop} {md : Region.Mode} {S : World → Prop} (i : Nat) {oi : Oper} {v : Value} {k : Nat} {ls ls' : Array Bool} {a a' : Act} {w : World} (h : wpAnyH P md ops Q S k ls' a' w) (hi : ops[i]? = some oi := by rfl) (hs : Region.noSelect ops = true := by kernel_rfl) (hf : Region.free md ops ls i = true := by kernel_rfl) (hr : (Region.ready md ops ls).contains i = true := by kernel_rfl) (hQ : ∀ c a w, Q (.panic c) (a.put oi.dst v) w → Q (.panic c) a w := by exact fun _ _ _ h => h)
  (hy : YieldsIf P ops S oi v a := by (refine Or.inl ⟨by kernel_rfl, ?_⟩; intro w hSw; (try dsimp only at hSw); go_simp; try with_reducible rfl)) (hS : S w := by assumption) (ha : a.put oi.dst v = a' := by (try simp only [Act.put, List.getElem_toArray, List.getElem_cons_zero, List.getElem_cons_succ, List.setIfInBounds_toArray, List.set_cons_zero, List.set_cons_succ]); exact rfl) (hl : ls.setIfInBounds i true = ls' := by (try simp only [Act.put, List.getElem_toArray, List.getElem_cons_zero, List.getElem_cons_succ, List.setIfInBounds_toArray, List.set_cons_zero, List.set_cons_succ]); exact rfl) : wpAnyH P md ops Q S (k + 1) ls a w := wpAnyH_take hi hs hf hr hQ hy hS (by rw [ha, hl]; exact h)
theorem qj {P : Program} {ops : Array Oper} {Q : Exit → Act → World → Prop} {md : Region.Mode} {S : World → Prop} (i : Nat) {oi : Oper} {k : Nat} {ls ls' : Array Bool} {a a' : Act} {w : World} (h : wpAnyH P md ops Q S k ls' a' w) (hi : ops[i]? = some oi := by rfl) (hs : Region.noSelect ops = true := by kernel_rfl) (hf : Region.free md ops ls i = true := by kernel_rfl) (hr : (Region.ready md ops ls).contains i = true := by kernel_rfl) (hQ : ∀ c a w, Q (.panic c) (a.put oi.dst undef) w → Q (.panic c) a w := by exact fun _ _ _ h => h)
  (hy : YieldsIf P ops S oi undef a := by exact Or.inr ⟨by kernel_rfl, rfl⟩) (hS : S w := by assumption) (ha : a.put oi.dst undef = a' := by (try simp only [Act.put, List.getElem_toArray, List.getElem_cons_zero, List.getElem_cons_succ, List.setIfInBounds_toArray, List.set_cons_zero, List.set_cons_succ]); exact rfl) (hl : ls.setIfInBounds i true = ls' := by (try simp only [Act.put, List.getElem_toArray, List.getElem_cons_zero, List.getElem_cons_succ, List.setIfInBounds_toArray, List.set_cons_zero, List.set_cons_succ]); exact rfl) : wpAnyH P md ops Q S (k + 1) ls a w := wpAnyH_take hi hs hf hr hQ hy hS (by rw [ha, hl]; exact h)
theorem qb {B : Nat} {w : World} : Below B w w := Below.refl _ _
theorem al1 (w : World) (A : Array Value) (t : TypeId) : ∃ w1, w1 = w.alloc (Obj.cells A t) ∧ Hi (Below w.heap.size w w1) ∧ Hi (w1.heap[w.heap.size]? = some (.cells A t (0, 0))) := ⟨_, rfl, hdd ((Below.refl _ _).alloc (Nat.le_refl _) _), hdd (heap_alloc_new w _)⟩
theorem al2 (w : World) (A : Array Value) (t : TypeId) (B : Array Value) (u : TypeId) : ∃ w1, w1 = (w.alloc (Obj.cells A t)).alloc (Obj.cells B u) ∧ Hi (Below w.heap.size w w1) ∧ Hi (w1.heap[w.heap.size]? = some (.cells A t (0, 0))) ∧ Hi (w1.heap[w.heap.size + 1]? = some (.cells B u (0, 0))) := ⟨_, rfl, hdd (((Below.refl _ _).alloc (Nat.le_refl _) _).alloc (by simp) _), hdd (heap_alloc2_old w _ _), hdd (heap_alloc2_new w _ _)⟩
theorem qz {W : World} {g : Nat} {a b c d : Value} (h : ∀ (o : Nat) (v : Value), (#[a, b, c, d] : Array Value)[o]? = some v → ∀ w', Below W.heap.size W w' → w'.cell? ⟨g, o, none⟩ = some v) {w' : World} (hb : Below W.heap.size W w') :
  w'.cell? ⟨g, 0, none⟩ = some a ∧ w'.cell? ⟨g, 1, none⟩ = some b ∧ w'.cell? ⟨g, 2, none⟩ = some c ∧ w'.cell? ⟨g, 3, none⟩ = some d := ⟨h 0 _ rfl _ hb, h 1 _ rfl _ hb, h 2 _ rfl _ hb, h 3 _ rfl _ hb⟩
theorem lyh {P : Program} {ops : Array Oper} {Q : Exit → Act → World → Prop} {md : Region.Mode} {S : World → Prop} {k : Nat} {ls ls' : Array Bool} {a a' : Act} {w : World} (h : wpAnyH P md ops Q S k ls' a' w) (ha : a = a' := by (try simp only [Act.put, List.getElem_toArray, List.getElem_cons_zero, List.getElem_cons_succ, List.setIfInBounds_toArray, List.set_cons_zero, List.set_cons_succ]); exact rfl) (hl : ls = ls' := by (try simp only [Act.put, List.getElem_toArray, List.getElem_cons_zero, List.getElem_cons_succ, List.setIfInBounds_toArray, List.set_cons_zero, List.set_cons_succ]); exact rfl) : wpAnyH P md ops Q S k ls a w := by rw [ha, hl]; exact h

theorem y0q {p : Prop} (h : Hi p) : p := h
theorem z2q {p : Prop} (h : p) : Hi p := h

theorem q3k {P : Program} {f : FuncId} {args : Array Value}
  (h : Calls P f args (w.drewN n) fun e w' => e = .returned v ∧ w.drewN n = w') : Calls P f args (w.drewN n) fun e w'' => e = .returned v ∧ ∃ m, w'' = w.drewN m :=
 h.mono fun _ _ ⟨he, hm⟩ => ⟨he, n, hm.symm⟩
def U (n : Nat) : Value := .int .u32 n

def d5q (w : World) (a : Option Addr) (cs : List Value) : Prop :=
 cs ≠ [] → ∃ b off, a = some ⟨b, off, none⟩ ∧ b < w.heap.size ∧ ∀ j (h : j < cs.length), w.cell? ⟨b, off + j, none⟩ = some cs[j]

def IsW (w : World) (v : Value) (l : List Nat) : Prop :=
 ∃ a cap, v = .slice a l.length cap ∧ l.length ≤ cap ∧ l.length ≤ 1073741824 ∧ Ws l ∧ d5q w a (l.map U) ∧ (l ≠ [] → ∀ x, a = some x → x.block < w.heap.size)

def Blk (w : World) (B : Nat) (e : TypeId) (l : List Nat) : Prop := w.heap[B]? = some (.cells (l.map U).toArray e (0, 0))

structure z9q (B : Nat) (w w' : World) : Prop where
 os : w'.os = w.os
 tape : w'.tape = w.tape
 output : w'.output = w.output
 size : w'.heap.size = w.heap.size
 block : ∀ k, k ≠ B → w'.heap[k]? = w.heap[k]?

theorem z9q.refl (B : Nat) (w : World) : z9q B w w := ⟨rfl, rfl, rfl, rfl, fun _ _ => rfl⟩
theorem z9q.trans (h : z9q B a b) (k : z9q B b c) : z9q B a c :=
 ⟨k.os.trans h.os, k.tape.trans h.tape, k.output.trans h.output, k.size.trans h.size, fun i hi => (k.block i hi).trans (h.block i hi)⟩
theorem z9q.drewN (h : z9q B a w) (n : Nat) : z9q B a (w.drewN n) := ⟨h.os, h.tape, h.output, h.size, h.block⟩
theorem z9q.drew (h : z9q B a w) : z9q B a w.drew := ⟨h.os, h.tape, h.output, h.size, h.block⟩
theorem z9q.setCell (h : z9q B a w) (i : Nat) (v : Value) : z9q B a (w.setCell ⟨B, i, none⟩ v) :=
 h.trans ⟨rfl, rfl, rfl, by simp [World.setCell], fun k hk => Below.heap_setCell _ _ _ _ (by simpa using hk)⟩
theorem z9q.below (h : z9q B w w') (hN : N ≤ B) : Below N w w' :=
 ⟨h.os, h.tape, h.output, Nat.le_of_eq h.size.symm, fun k hk => h.block k (by omega)⟩
theorem q4q (h : Below N a w) (k : z9q B w w') (hN : N ≤ B) : Below N a w' := h.trans (k.below hN)

theorem q5q (h : Below B a w) (n : Nat) : Below B a (w.drewN n) := ⟨h.os, h.tape, h.output, h.size, h.block⟩
theorem f5q (h : Below B (a.drewN n) w) : Below B a w := ⟨h.os, h.tape, h.output, h.size, h.block⟩
theorem u2q (h : Below B a.drew w) : Below B a w := ⟨h.os, h.tape, h.output, h.size, h.block⟩
theorem q5v (h : Below N a b) (k : Below b.heap.size b c) (hN : N ≤ b.heap.size) : Below N a c := h.trans (k.mono hN)
theorem q0q (h : Below a.heap.size a b) (k : Below b.heap.size b c) : Below a.heap.size a c := h.trans (k.mono h.size)

theorem d5q.of_blocks {a : Option Addr} {cs : List Value} (h : d5q w a cs) (hs : w.heap.size ≤ w'.heap.size)
  (hb : ∀ x, a = some x → w'.heap[x.block]? = w.heap[x.block]?) : d5q w' a cs := by
 intro hne
 obtain ⟨b, off, rfl, hlt, hc⟩ := h hne
 exact ⟨b, off, rfl, by omega, fun j hj => by rw [World.cell?_of_block (w := w) (a := ⟨b, off + j, none⟩) (hb ⟨b, off, none⟩ rfl)]; exact hc j hj⟩
theorem d5q.below {a : Option Addr} {cs : List Value} (h : d5q w a cs) (hb : Below w.heap.size w w') : d5q w' a cs := by
 intro hne
 obtain ⟨b, off, rfl, hlt, hc⟩ := h hne
 exact ⟨b, off, rfl, Nat.lt_of_lt_of_le hlt hb.size, fun j hj => by rw [hb.cell hlt]; exact hc j hj⟩
theorem d5q.nil (w : World) (a : Option Addr) : d5q w a [] := fun h => absurd rfl h
theorem d5q.take {a : Option Addr} {cs : List Value} (h : d5q w a cs) (k : Nat) : d5q w a (cs.take k) := by
 intro hne
 have hne' : cs ≠ [] := by rintro rfl; simp at hne
 obtain ⟨b, off, rfl, hlt, hc⟩ := h hne'
 refine ⟨b, off, rfl, hlt, fun j hj => ?_⟩
 have hj' : j < cs.length := by rw [List.length_take] at hj; omega
 rw [hc j hj', List.getElem_take]

theorem q3q {b o : Nat} (hb : Below w.heap.size w w') (hc : w.cell? ⟨b, o, none⟩ = some v) : w'.cell? ⟨b, o, none⟩ = some v := by
 rw [hb.cell (p := ⟨b, o, none⟩)]
 ·
  exact hc
 ·
  show b < w.heap.size
  rcases Nat.lt_or_ge b w.heap.size with h | h
  ·
   exact h
  ·
   have hc' := hc
   simp [World.cell?, Array.getElem?_eq_none h] at hc'

theorem IsW.below (h : IsW w v l) (hb : Below w.heap.size w w') : IsW w' v l := by
 obtain ⟨a, cap, rfl, h1, h2, h3, h4, h5⟩ := h
 exact ⟨a, cap, rfl, h1, h2, h3, h4.below hb, fun hne x hx => Nat.lt_of_lt_of_le (h5 hne x hx) hb.size⟩
theorem IsW.only (h : IsW w v l) (hb : z9q B w w') (hv : v.ownBlock ≠ some B) : IsW w' v l := by
 obtain ⟨a, cap, rfl, h1, h2, h3, h4, h5⟩ := h
 refine ⟨a, cap, rfl, h1, h2, h3, h4.of_blocks (Nat.le_of_eq hb.size.symm) ?_, fun hne x hx => by rw [hb.size]; exact h5 hne x hx⟩
 rintro x rfl
 exact hb.block _ (fun e => hv (by simp [Value.ownBlock, e]))
theorem IsW.empty (h : IsW w v []) : IsW w' v [] := by
 obtain ⟨a, cap, rfl, h1, h2, h3, h4, h5⟩ := h
 exact ⟨a, cap, rfl, h1, h2, h3, d5q.nil _ _, fun hne => absurd rfl hne⟩
theorem IsW.only0 (h : IsW w v l) (hb : z9q B w w') (hv : l ≠ [] → v.ownBlock ≠ some B) : IsW w' v l := by
 by_cases hl : l = []
 ·
  subst hl; exact h.empty
 ·
  exact h.only hb (hv hl)
theorem IsW.drewN (h : IsW w v l) (n : Nat) : IsW (w.drewN n) v l := h
theorem IsW.drew (h : IsW w v l) : IsW w.drew v l := h
theorem IsW.ws (h : IsW w v l) : Ws l := by obtain ⟨_, _, _, _, _, h, _, _⟩ := h; exact h
theorem IsW.len (h : IsW w v l) : l.length ≤ 1073741824 := by obtain ⟨_, _, _, _, h, _, _, _⟩ := h; exact h
theorem IsW.nil (w : World) : IsW w (.slice none 0 0) [] := ⟨none, 0, rfl, Nat.zero_le _, by simp, x2k, d5q.nil _ _, fun h => absurd rfl h⟩
theorem IsW.own_lt (h : IsW w v l) (hne : l ≠ []) : ∀ b, v.ownBlock = some b → b < w.heap.size := by
 obtain ⟨a, cap, rfl, h1, h2, h3, h4, h5⟩ := h
 intro b hb
 cases a with
 | none => simp [Value.ownBlock] at hb
 | some x => simp [Value.ownBlock] at hb; subst hb; exact h5 hne x rfl
theorem IsW.own_ne (h : IsW w v l) {B : Nat} (hB : w.heap.size ≤ B) : l ≠ [] → v.ownBlock ≠ some B := fun hne e => by have := h.own_lt hne B e; omega
theorem IsW.cell {b : Nat} (h : IsW w (.slice (some ⟨b, off, none⟩) n cap) l) (j : Nat) (hj : j < l.length) :
  w.cell? ⟨b, off + j, none⟩ = some (.int .u32 (nth l j)) := by
 obtain ⟨a, cap', hv, h1, h2, h3, h4, h5⟩ := h
 cases hv
 obtain ⟨b', off', he, hlt, hc⟩ := h4 (by intro e; simp at e; subst e; simp at hj)
 cases he
 rw [hc j (by simpa using hj)]
 simp [U, nth, List.getD_eq_getElem?_getD, List.getElem?_eq_getElem hj]

theorem IsW.take {a : Option Addr} (h : IsW w (.slice a n cap) l) (k c : Nat) (hk : k ≤ l.length) (hc : k ≤ c) : IsW w (.slice a k c) (l.take k) := by
 obtain ⟨a', cap', hv, h1, h2, h3, h4, h5⟩ := h
 cases hv
 have e : (l.take k).length = k := by simp; omega
 refine ⟨a, c, by rw [e], by omega, by omega, j2z h3 k, ?_⟩
 rw [List.map_take]
 exact ⟨h4.take k, fun hne => h5 (fun e => hne (by rw [e]; simp))⟩

theorem IsW.drop {b : Nat} (h : IsW w (.slice (some ⟨b, off, none⟩) n cap) l) (k m c : Nat) (hk : k ≤ l.length) (hm : m = l.length - k) (hc : m ≤ c) :
  IsW w (.slice (some ⟨b, off + k, none⟩) m c) (l.drop k) := by
 have hcell := h.cell
 obtain ⟨a', cap', hv, h1, h2, h3, h4, h5⟩ := h
 cases hv
 have e : (l.drop k).length = m := by simp; omega
 refine ⟨some ⟨b, off + k, none⟩, c, by rw [e], by omega, by omega, j2j h3 k, ?_, fun hne x hx => by cases hx; exact h5 (fun e => hne (by rw [e]; simp)) ⟨b, off, none⟩ rfl⟩
 intro hne
 refine ⟨b, off + k, rfl, h5 (fun e => hne (by rw [e]; simp)) ⟨b, off, none⟩ rfl, fun j hj => ?_⟩
 rw [List.length_map, e] at hj
 have := hcell (k + j) (by omega)
 rw [Nat.add_assoc, this]
 simp [U, nth, List.getD_eq_getElem?_getD, List.getElem?_eq_getElem (show k + j < l.length by omega)]

theorem Blk.lt {e : TypeId} (h : Blk w B e l) : B < w.heap.size := lt_of_block h
theorem Blk.cell {e : TypeId} (h : Blk w B e l) (j : Nat) (hj : j < l.length) :
  w.cell? ⟨B, j, none⟩ = some (.int .u32 (nth l j)) := by
 have h' : w.heap[B]? = some (.cells (l.map U).toArray e (0, 0)) := h
 simp [World.cell?, h', U, nth, List.getD_eq_getElem?_getD, List.getElem?_eq_getElem hj]
theorem Blk.free {e : TypeId} (h : Blk w B e l) (j : Nat) : w.frozen? ⟨B, j, none⟩ = false := by
 have h' : w.heap[B]? = some (.cells (l.map U).toArray e (0, 0)) := h
 simp [World.frozen?, h']
theorem Blk.setCell {e : TypeId} (h : Blk w B e l) (k x : Nat) (v : Value) (hv : v = U x) : Blk (w.setCell ⟨B, k, none⟩ v) B e (l.set k x) := by
 have h' : w.heap[B]? = some (.cells (l.map U).toArray e (0, 0)) := h
 subst hv
 simp [Blk, World.setCell, Array.getElem?_modify, h', List.map_set]
theorem Blk.below {e : TypeId} (h : Blk w B e l) (hb : Below N w w') (hN : B < N) : Blk w' B e l := by
 unfold Blk; rw [hb.block B hN]; exact h
theorem Blk.only {C : Nat} {e : TypeId} (h : Blk w B e l) (hb : z9q C w w') (hN : B ≠ C) : Blk w' B e l := by
 unfold Blk; rw [hb.block B hN]; exact h
theorem Blk.drewN {e : TypeId} (h : Blk w B e l) (n : Nat) : Blk (w.drewN n) B e l := h
theorem Blk.drew {e : TypeId} (h : Blk w B e l) : Blk w.drew B e l := h
theorem Blk.isW {e : TypeId} (h : Blk w B e l) (hw : Ws l) (off n cap : Nat) (hn : off + n ≤ l.length) (hc : n ≤ cap) (hl : n ≤ 1073741824) :
  IsW w (.slice (some ⟨B, off, none⟩) n cap) ((l.drop off).take n) := by
 have hlen : ((l.drop off).take n).length = n := by simp; omega
 refine ⟨some ⟨B, off, none⟩, cap, by rw [hlen], by omega, by omega, j2z (j2j hw _) _, fun _ => ⟨B, off, rfl, h.lt, fun j hj => ?_⟩, fun _ x hx => by cases hx; exact h.lt⟩
 rw [List.length_map, hlen] at hj
 rw [h.cell (off + j) (by omega)]
 simp [U, nth, List.getD_eq_getElem?_getD, List.getElem?_eq_getElem (show off + j < l.length by omega)]
theorem Blk.isW_all {e : TypeId} (h : Blk w B e l) (hw : Ws l) (cap : Nat) (hc : l.length ≤ cap) (hl : l.length ≤ 1073741824) :
  IsW w (.slice (some ⟨B, 0, none⟩) l.length cap) l := by
 have := h.isW hw 0 l.length cap (by omega) hc hl
 simpa using this

theorem j5v (z : Value) (n : Nat) : madeCells #[z] n = (List.replicate n z).toArray := by
 apply Array.ext'
 rw [toList_madeCells_one]

theorem v3q {P : Program} {ops : Array Oper} {rest : List Oper} {o : Oper} {a : Act} {Q : Exit → Act → World → Prop}
  (hg : o.guard = none) (l c : Operand) (t e : TypeId) (hop : o.op = Op.makeSlice t l c) (h1 : P.underlying t = some (.slice e))
  (h2 : (P.info? e).map (fun i => (i.zero, i.size, i.bytes)) = some (some (.int .u32 0), 1, 4)) (n : Nat) (hl : a.eval l = .int .i64 n) (hc : a.eval c = .int .i64 n) (hn : n ≤ 1073741824)
  (hK : ∀ w', Blk w' w.heap.size e (List.replicate n 0) → Below w.heap.size w w' → Hi (w'.heap.size = w.heap.size + 1) → wpList P ops Q rest (a.put o.dst (.slice (some ⟨w.heap.size, 0, none⟩) n n)) w') :
  wpList P ops Q (o :: rest) a w := by
 obtain ⟨i, hi, hz, hs, hb⟩ := info_parts h2
 refine wpList_plain hg fun K hK' => ?_
 have hr := run_make (P := P) w t e i _ h1 hi hz .i64 .i64 n n (by omega) (Int.le_refl _) (by rw [hb]; omega) (by omega)
 simp only [Int.toNat_natCast, hs, Value.cells, j5v, Nat.mul_one] at hr
 unfold Oper.wp
 simp [execOp, hop, hl, hc, hr, Result.andThen]
 refine hK' _ _ (hK _ ?_ ((qb).alloc qm _) (hdd (by simp)))
 show (w.heap.push _)[w.heap.size]? = _
 simp [U]

theorem w8q {P : Program} {ops : Array Oper} {rest : List Oper} {o : Oper} {a : Act} {Q : Exit → Act → World → Prop}
  (hg : o.guard = none) (l c : Operand) (t e : TypeId) (hop : o.op = Op.makeSlice t l c) (h1 : P.underlying t = some (.slice e))
  (h2 : (P.info? e).map (fun i => (i.zero, i.size, i.bytes)) = some (some (.int .u32 0), 1, 4)) (n : Nat) (L C : Int) (hl : a.eval l = .int .i64 L) (hc : a.eval c = .int .i64 C) (hL : L = n) (hC : C = n) (hn : n ≤ 1073741824)
  (hK : ∀ w', Blk w' w.heap.size e (List.replicate n 0) → Below w.heap.size w w' → Hi (w'.heap.size = w.heap.size + 1) → wpList P ops Q rest (a.put o.dst (.slice (some ⟨w.heap.size, 0, none⟩) n n)) w') :
  wpList P ops Q (o :: rest) a w := by
 subst hL hC; exact v3q hg l c t e hop h1 h2 n hl hc hn hK

theorem x2y (l : List Nat) : ∀ u ∈ l.map U, u.oneCell' = true := by
 intro u hu
 obtain ⟨_, _, rfl⟩ := List.mem_map.1 hu
 rfl

theorem j0k {P : Program} {ops : Array Oper} {rest : List Oper} {dst : Option Tmp} {type : TypeId} {pos : String} {after : Array Edge} {guard : Option (Nat × Bool)} {args : Array Operand} {ts : Array TypeId} {a : Act} {Q : Exit → Act → World → Prop}
  (h : wpList P ops Q (⟨dst, .call { callee := .builtin .copy, args := args, argTypes := ts }, type, pos, after, guard⟩ :: rest) a w) : wpList P ops Q (⟨dst, .call { callee := .builtin .copy, args := args, argTypes := ts }, type, pos, after, guard⟩ :: rest) a w := h

theorem m7q {P : Program} {ops : Array Oper} {rest : List Oper} {o : Oper} {a : Act} {Q : Exit → Act → World → Prop} (hgd : o.guard = none) (d s : Operand) (dT sT : TypeId)
  (ho : o.op = .call { callee := .builtin .copy, args := #[d, s], argTypes := #[dT, sT] }) (elem : TypeId) (hu : P.underlying dT = some (.slice elem)) (hsz : (P.info? elem).map (·.size) = some 1)
  (g off dLen dCap : Nat) (v : Value) (l cur : List Nat) (e : TypeId) (hd : a.eval d = .slice (some ⟨g, off, none⟩) dLen dCap) (hs : a.eval s = v) (hv : IsW w v l) (hb : Blk w g e cur)
  (hle : l.length ≤ dLen) (hfit : off + l.length ≤ cur.length)
  (h : ∀ w', Blk w' g e (cur.take off ++ (l ++ cur.drop (off + l.length))) → z9q g w w' → wpList P ops Q rest (a.put o.dst (goInt l.length)) w') :
  wpList P ops Q (o :: rest) a w := by
 obtain ⟨sa, cap, rfl, h1, h2, h3, h4, h5⟩ := hv
 by_cases h0 : l = []
 ·
  subst h0
  refine wpList_copy_nothing hgd d s dT sT ho elem hu hsz _ sa dLen dCap 0 cap hd hs (by simp) ?_
  exact h w (by simpa using hb) (z9q.refl _ _)
 ·
  obtain ⟨b, so, rfl, hlt, hc⟩ := h4 (by simpa using h0)
  have hmin : (l.map U).length = Nat.min l.length dLen := by rw [List.length_map]; exact (Nat.min_eq_left hle).symm
  refine wpList_copy_own hgd d s dT sT ho elem hu hsz g off dLen dCap ⟨b, so, none⟩ l.length cap hd hs (cur.map U).toArray e hb (l.map U) hmin ?_ (by simpa using hfit) (x2y l) ?_
  ·
   intro j x hj
   obtain ⟨hj1, hj2⟩ := List.getElem?_eq_some_iff.1 hj
   rw [Addr.add_lit, hc j hj1, hj2]
  ·
   rw [List.length_map]
   refine h _ ?_ ⟨rfl, rfl, rfl, by simp [World.setRow], fun k hk => setRow_other w g k _ hk⟩
   show _ = _
   rw [setRow_heap w g _ _ e _ hb]
   simp [List.map_take, List.map_drop]

theorem q3v (l : List Nat) (n : Nat) : (List.replicate n 0).take 0 ++ (l ++ (List.replicate n 0).drop (0 + l.length)) = l ++ List.replicate (n - l.length) 0 := by
 simp

theorem IsW.other {cs : Array Value} {t : TypeId} {fr : Nat × Nat} (h : IsW w v l) (hB : w.heap[B]? = some (.cells cs t fr))
  (hcs : ∀ (j k : Nat), cs[j]? ≠ some (U k)) (ho : z9q B w w') : IsW w' v l := by
 by_cases hv : v.ownBlock = some B
 ·
  obtain ⟨a, cap, rfl, h1, h2, h3, h4, h5⟩ := h
  cases l with
  | nil => exact ⟨a, cap, rfl, h1, h2, h3, d5q.nil _ _, fun hne => absurd rfl hne⟩
  | cons k ks =>
   exfalso
   obtain ⟨b, off, rfl, hlt, hc⟩ := h4 (by simp)
   have e : b = B := by simpa [Value.ownBlock] using hv
   subst e
   have h9 := hc 0 (by simp)
   rw [cell_of_row _ _ _ _ _ _ hB] at h9
   exact hcs _ k h9
 ·
  exact h.only ho hv
theorem j4j {b : Bool} (hu : ∃ a n c, u = .slice a n c) : ∀ (j k : Nat), (#[u, .bool b] : Array Value)[j]? ≠ some (U k) := by
 obtain ⟨a, n, c, rfl⟩ := hu
 intro j k h
 match j, h with
 | 0, h => simp [U] at h
 | 1, h => simp [U] at h
 | (j + 2), h => simp at h
theorem z8y {W : Nat} {r : Value} {lr lu lv : List Nat} (h : ∀ b, r.ownBlock = some b → W ≤ b ∨ u.ownBlock = some b ∨ v.ownBlock = some b) (hB : B < W) (hu : lu ≠ [] → u.ownBlock ≠ some B) (hv : lv ≠ [] → v.ownBlock ≠ some B)
  (h1 : lr ≠ [] → lu ≠ []) (h2 : lr ≠ [] → lv ≠ []) : lr ≠ [] → r.ownBlock ≠ some B := by
 intro hne e
 rcases h B e with h3 | h3 | h3
 ·
  omega
 ·
  exact hu (h1 hne) h3
 ·
  exact hv (h2 hne) h3
theorem z7h (h : q2q (p * q) ≠ []) : q2q p ≠ [] := fun e => h (by rw [l9q.1 e, Nat.zero_mul, y7q])
theorem z8j (h : q2q (p * q) ≠ []) : q2q q ≠ [] := fun e => h (by rw [l9q.1 e, Nat.mul_zero, y7q])
theorem d1q {a b : Bool} (h : a = b) : Ending.returned (.bool a) = .returned (.bool b) := by rw [h]
theorem g4q {k : IntKind} {a b : Int} (h : a = b) : Ending.returned (.int k a) = .returned (.int k b) := by rw [h]
theorem y6z (a : Option Addr) (n cap : Nat) (w : World) :
  Calls Tryz.prog 97 #[.slice a n cap] w fun e w' => e = .returned (.bool (decide (n = 0))) ∧ w = w' := by
 go_enter Tryz.func97, Tryz.ntmps97
 go_wp2
 go_ret
 exact ⟨d1q (by cases n <;> simp <;> omega), rfl⟩

theorem g1y (a : Option Addr) (n cap : Nat) (w : World) (x : Nat) (hc : n = 1 → ∃ b off, a = some ⟨b, off, none⟩ ∧ w.cell? ⟨b, off, none⟩ = some (.int .u32 x)) :
  Calls Tryz.prog 99 #[.slice a n cap] w fun e w' => e = .returned (.bool (decide (n = 1 ∧ x = 1))) ∧ w = w' := by
 by_cases hn : n = 1
 ·
  subst hn
  obtain ⟨b, off, rfl, hc1⟩ := hc rfl
  have hc2 : w.cell? ⟨b, off + 0, none⟩ = some (.int .u32 x) := hc1
  clear hc
  go_enter Tryz.func99, Tryz.ntmps99
  go_wp2
  go_ret
  exact ⟨d1q (by rw [Bool.eq_iff_iff]; simp; omega), rfl⟩
 ·
  have hn1 : ((n : Int) == 1) = false := by simp; omega
  clear hc
  go_enter Tryz.func99, Tryz.ntmps99
  go_wp2
  go_ret
  exact ⟨d1q (by simp [hn]), rfl⟩

def x5v (x y : Int) : Int := if x < y then -1 else 1

theorem y1k (x y : Int) (w : World) :
  Calls Tryz.prog 145 #[.int .i64 x, .int .i64 y] w fun e w' => e = .returned (.int .i64 (x5v x y)) ∧ w = w' := by
 go_enter Tryz.func145, Tryz.ntmps145
 go_wp2
 all_goals
  go_ret
  exact ⟨g4q (by simp [x5v, *]), rfl⟩

theorem g4z (a : Option Addr) (n cap : Nat) (w : World) :
  Calls Tryz.prog 123 #[.slice a n cap] w fun e w' => e = .returned (.bool (decide (n ≤ 2))) ∧ w = w' := by
 go_enter Tryz.func123, Tryz.ntmps123
 go_wp2
 go_ret
 exact ⟨d1q (by simp; omega), rfl⟩

theorem k1v (b off n cap i : Nat) (x : Nat) (w : World) (hi : i < n)
  (hc : w.cell? ⟨b, off + i, none⟩ = some (.int .u32 x)) (hx : x < 4294967296) :
  Calls Tryz.prog 152 #[.slice (some ⟨b, off, none⟩) n cap, .int .i64 i] w fun e w' => e = .returned (.int .u64 x) ∧ w = w' := by
 go_enter Tryz.func152, Tryz.ntmps152
 go_wp2
 go_ret
 exact ⟨rfl, rfl⟩
theorem g6j (a : Option Addr) (n cap i : Nat) (w : World) (hi : n ≤ i) :
  Calls Tryz.prog 152 #[.slice a n cap, .int .i64 i] w fun e w' => e = .returned (.int .u64 0) ∧ w = w' := by
 go_enter Tryz.func152, Tryz.ntmps152
 go_wp2
 go_ret
 exact ⟨rfl, rfl⟩

theorem q5y (h : IsW w v l) (i : Nat) :
  Calls Tryz.prog 152 #[v, .int .i64 i] w fun e w' => e = .returned (.int .u64 (nth l i)) ∧ w = w' := by
 obtain ⟨a, cap, rfl, h1, h2, h3, h4, h5⟩ := id h
 by_cases hi : i < l.length
 ·
  obtain ⟨b, off, rfl, hlt, hc⟩ := h4 (by intro e; simp at e; subst e; simp at hi)
  exact k1v b off _ cap i _ w hi (h.cell i hi) (y1q h3 i)
 ·
  rw [p5q (by omega)]
  exact g6j a _ cap i w (by omega)

def b8q (l : List Nat) : Bool := decide (l.length = 0)
def g7q (x : Nat) : Bool := decide (x = 0)
def k7q (x : Nat) : Bool := decide (x = 1)
def j7h (l : List Nat) : Bool := decide (l.length ≤ 2)
theorem q2k (h : x = 0) : g7q x = true := by simp [g7q, h]
theorem f2q (h : x ≠ 0) : g7q x = false := by simp [g7q, h]
theorem j7v (h : x = 1) : k7q x = true := by simp [k7q, h]
theorem j4y (h : x ≠ 1) : k7q x = false := by simp [k7q, h]
theorem j0v (h : l.length ≤ 2) : j7h l = true := by simp [j7h, h]
theorem q6h (h : ¬ l.length ≤ 2) : j7h l = false := by simp [j7h]; omega

theorem t7q (h : IsW w v l) :
  Calls Tryz.prog 97 #[v] w fun e w' => e = .returned (.bool (b8q l)) ∧ w = w' := by
 obtain ⟨a, cap, rfl, h1, h2, h3, h4, h5⟩ := h
 exact y6z a _ cap w

theorem h5q (h : IsW w v (q2q x)) :
  Calls Tryz.prog 97 #[v] w fun e w' => e = .returned (.bool (g7q x)) ∧ w = w' := by
 obtain ⟨a, cap, rfl, h1, h2, h3, h4, h5⟩ := h
 refine (y6z a _ cap w).mono ?_
 rintro e w' ⟨rfl, rfl⟩
 refine ⟨d1q ?_, rfl⟩
 unfold g7q
 congr 1
 exact propext ⟨fun e => l9q.1 (List.eq_nil_of_length_eq_zero e), fun e => by rw [e, y7q]; rfl⟩

theorem v2w : ((q2q x).length = 1 ∧ nth (q2q x) 0 = 1) ↔ x = 1 := by
 constructor
 ·
  rintro ⟨h1, h2⟩
  have h0 := j6q x
  obtain ⟨y, hy⟩ := List.length_eq_one_iff.1 h1
  rw [hy] at h0 h2
  simp [val, nth] at h0 h2
  omega
 ·
  rintro rfl
  rw [k1q (by omega), show 1 / 4294967296 = 0 from rfl, y7q]
  exact ⟨rfl, rfl⟩

theorem p4q (h : IsW w v (q2q x)) :
  Calls Tryz.prog 99 #[v] w fun e w' => e = .returned (.bool (k7q x)) ∧ w = w' := by
 obtain ⟨a, cap, rfl, h1, h2, h3, h4, h5⟩ := id h
 refine (g1y a _ cap w (nth (q2q x) 0) ?_).mono ?_
 ·
  intro hn
  obtain ⟨b, off, rfl, hlt, hc⟩ := h4 (by intro e; simp at e; rw [e] at hn; simp at hn)
  exact ⟨b, off, rfl, h.cell 0 (by omega)⟩
 ·
  rintro e w' ⟨rfl, rfl⟩
  refine ⟨d1q ?_, rfl⟩
  unfold k7q
  congr 1
  exact propext v2w

theorem q0y (h : IsW w v l) :
  Calls Tryz.prog 123 #[v] w fun e w' => e = .returned (.bool (j7h l)) ∧ w = w' := by
 obtain ⟨a, cap, rfl, h1, h2, h3, h4, h5⟩ := h
 exact g4z a _ cap w

theorem v1v (x y : Nat) (hx : x < 4294967296) (hy : y < 4294967296) : bits .or .u64 ((x : Int) * 4294967296) y = ((x * 4294967296 + y : Nat) : Int) := by
 have h1 := u64_or_nat (x * 4294967296) y (by omega) (by omega)
 have h2 : x * 4294967296 ||| y = x * 4294967296 + y := by
  have := Nat.two_pow_add_eq_or_of_lt (i := 32) (b := y) (by simpa using hy) x
  rw [show (2 : Nat) ^ 32 = 4294967296 from rfl, Nat.mul_comm] at this
  exact this.symm
 rw [h2] at h1
 rw [← h1]
 congr 1

theorem j8x (x : Nat) (hx : x < 4294967296) : IntKind.u64.wrap ((x : Int) * 4294967296) = (x : Int) * 4294967296 :=
 IntWalk.u64_in _ (by omega)

theorem g5y (h : IsW w v l) (hl : l.length ≤ 2) :
  Calls Tryz.prog 130 #[v] w fun e w' => e = .returned (.int .u64 (val l)) ∧ w = w' := by
 have b0 := y1q h.ws 0
 have b1 := y1q h.ws 1
 have hv : val l = nth l 1 * 4294967296 + nth l 0 := by
  have e1 := d4q l 1
  have e0 := d4q l 0
  rw [j8w (by omega)] at e1
  simp only [Nat.zero_add, y3j, Nat.pow_one, Nat.pow_zero] at e1 e0
  omega
 have Hv := hdd hv
 clear hv
 go_enter Tryz.func130, Tryz.ntmps130
 go_wp2_with fail
 refine (q5y h 1).mono ?_
 rintro e w' ⟨rfl, rfl⟩
 go_wp2_with fail
 refine (q5y h 0).mono ?_
 rintro e w' ⟨rfl, rfl⟩
 go_wp2_with fail
 go_ret
 refine ⟨g4q ?_, rfl⟩
 rw [v1v _ _ b1 b0, Hv.o]

theorem x1k {a : Option Addr} (h : IsW w (.slice a l.length cap) l) :
  Calls Tryz.prog 150 #[.slice a l.length cap] w fun e w' => e = .returned (.slice a (q2q (val l)).length (q2q (val l)).length) ∧ w = w' := by
 obtain ⟨a', cap', hv, h1, h2, h3, h4, h5⟩ := id h
 cases hv
 have H4 := hdd h4
 have H := hdd h
 clear h h4 h5
 go_enter Tryz.func150, Tryz.ntmps150
 go_wp2
 go_loop [3] (fun n => ∃ k : Nat, k ≤ l.length ∧ n = .int .i64 k ∧ Hi (val (l.take k) = val l)) (fun n => (intOf n).toNat)
 case atStart => exact ⟨l.length, Nat.le_refl _, rfl, hdd (by rw [List.take_length])⟩
 case round =>
  obtain ⟨k, hk, rfl, hv⟩ := hrel
  by_cases hk0 : 0 < k
  ·
   obtain ⟨b, off, rfl, hlt, hc0⟩ := H4.o (by intro e; simp at e; subst e; simp at hk; omega)
   have hc := H.o.cell (k - 1) (by omega)
   clear hc0
   by_cases hz : nth l (k - 1) = 0
   ·
    have hz' : ((nth l (k - 1) : Int) == 0) = true := by simp [hz]
    have hzH := hdd hz
    clear hz
    go_wp2
    go_round
    case rel =>
     refine ⟨k - 1, by omega, by go_num, hdd ?_⟩
     rw [← hv.o, show k = k - 1 + 1 from by omega, d4q, Nat.add_sub_cancel, hzH.o]
     simp
    case measure => simp [intOf]; omega
   ·
    have hz' : ((nth l (k - 1) : Int) == 0) = false := by simp [hz]
    have hzH := hdd hz
    clear hz
    go_wp2
    go_ret
    exact ⟨by rw [q8z h3 hk (Or.inr hzH.o) hv.o, List.length_take, Nat.min_eq_left hk]; rfl, rfl⟩
  ·
   have hk0' : k = 0 := by omega
   subst hk0'
   go_wp2
   go_ret
   exact ⟨by rw [q8z h3 hk (Or.inl rfl) hv.o]; rfl, rfl⟩

theorem IsW.trim {a : Option Addr} (h : IsW w (.slice a l.length cap) l) : IsW w (.slice a (q2q (val l)).length (q2q (val l)).length) (q2q (val l)) := by
 have hw := h.ws
 have hle := j7j hw
 have e := q9w hw
 have := h.take (q2q (val l)).length (q2q (val l)).length hle qm
 rwa [← e] at this

theorem k0w (h : IsW w v l) :
  Calls Tryz.prog 150 #[v] w fun e w' => (∃ v', e = .returned v' ∧ IsW w v' (q2q (val l)) ∧ (∀ b, v'.ownBlock = some b → v.ownBlock = some b)) ∧ w = w' := by
 obtain ⟨a, cap, rfl, h1, h2, h3, h4, h5⟩ := id h
 refine (x1k h).mono ?_
 rintro e w' ⟨rfl, rfl⟩
 exact ⟨⟨_, rfl, h.trim, fun b hb => by
  cases a with
  | none => simp [Value.ownBlock] at hb
  | some x => simpa [Value.ownBlock] using hb⟩, rfl⟩

theorem s4q (h : IsW w v l) (hx : val l = x) :
  Calls Tryz.prog 150 #[v] w fun e w' => (∃ v', e = .returned v' ∧ IsW w v' (q2q x) ∧ (∀ b, v'.ownBlock = some b → v.ownBlock = some b)) ∧ w = w' := by
 subst hx; exact k0w h

theorem x1w (a : Option Addr) (n cap : Nat) (w : World) (x : Nat) (hn : n ≤ 1073741824) (hc : n ≠ 0 → ∃ b off, a = some ⟨b, off, none⟩ ∧ w.cell? ⟨b, off + (n - 1), none⟩ = some (.int .u32 x)) :
  Calls Tryz.prog 96 #[.slice a n cap] w fun e w' => e = .returned (.bool (decide (n = 0 ∨ x ≠ 0))) ∧ w = w' := by
 by_cases h0 : n = 0
 ·
  subst h0
  clear hc
  go_enter Tryz.func96, Tryz.ntmps96
  go_wp2
  go_ret
  exact ⟨d1q (by simp), rfl⟩
 ·
  obtain ⟨b, off, rfl, hc1⟩ := hc h0
  have hn1 : ((n : Int) == 0) = false := by simp; omega
  have hn2 : 0 < n := by omega
  clear hc
  go_enter Tryz.func96, Tryz.ntmps96
  go_wp2
  go_ret
  exact ⟨d1q (by rw [Bool.eq_iff_iff]; simp [h0]), rfl⟩

theorem y6h : n8q l ↔ (l.length = 0 ∨ nth l (l.length - 1) ≠ 0) := by
 constructor
 ·
  intro h
  by_cases h0 : l = []
  ·
   subst h0; simp
  ·
   exact Or.inr (o8q h h0)
 ·
  intro h
  have := j7y (l := l) (k := l.length) qm h
  rwa [List.take_length] at this

instance (l : List Nat) : Decidable (n8q l) := decidable_of_iff _ y6h.symm

theorem x1h (h : IsW w v l) :
  Calls Tryz.prog 96 #[v] w fun e w' => e = .returned (.bool (decide (n8q l))) ∧ w = w' := by
 obtain ⟨a, cap, rfl, h1, h2, h3, h4, h5⟩ := id h
 refine (x1w a _ cap w (nth l (l.length - 1)) h2 ?_).mono ?_
 ·
  intro hn
  obtain ⟨b, off, rfl, hlt, hc⟩ := h4 (by intro e; simp at e; subst e; simp at hn)
  exact ⟨b, off, rfl, h.cell (l.length - 1) (by omega)⟩
 ·
  rintro e w' ⟨rfl, rfl⟩
  refine ⟨d1q ?_, rfl⟩
  congr 1
  exact propext y6h.symm

def u3q (x y : Nat) : Int := if x < y then -1 else if y < x then 1 else 0

theorem z9h (hl : Ws l) (hm : Ws m) (hlen : l.length = m.length) (hk : k < l.length) (hd : l.drop (k + 1) = m.drop (k + 1)) :
  (nth l k < nth m k → val l < val m) ∧ (nth m k < nth l k → val m < val l) := by
 have e1 := q9z l k (by omega)
 have e2 := q9z m k (by omega)
 have d1 := l8q l k
 have d2 := l8q m k
 have t1 := q1z hl k
 have t2 := q1z hm k
 rw [hd] at d1
 generalize val (List.drop (k + 1) m) = r at *
 generalize val (l.drop k) = p at *
 generalize val (m.drop k) = q at *
 constructor
 ·
  intro h
  have : p + 1 ≤ q := by omega
  have := Nat.mul_le_mul_left (4294967296 ^ k) this
  rw [Nat.mul_add] at this
  omega
 ·
  intro h
  have : q + 1 ≤ p := by omega
  have := Nat.mul_le_mul_left (4294967296 ^ k) this
  rw [Nat.mul_add] at this
  omega

theorem u5x (hu : IsW w u l) (hv : IsW w v m) (hl : n8q l) (hm : n8q m) :
  Calls Tryz.prog 122 #[u, v] w fun e w' => e = .returned (.int .i64 (u3q (val l) (val m))) ∧ (∃ n, w' = w.drewN n) := by
 obtain ⟨a, cap, rfl, h1, h2, h3, h4, h5⟩ := id hu
 obtain ⟨b, bcap, rfl, k1, k2, k3, k4, k5⟩ := id hv
 have H4 := hdd h4
 have K4 := hdd k4
 have HU := hdd hu
 have HV := hdd hv
 clear h4 k4 h5 k5 hu hv
 by_cases hlen : l.length = m.length
 ·
  have hlen' : ((l.length : Int) != (m.length : Int)) = false := by simp [hlen]
  have HL := hdd hlen
  clear hlen
  go_enter Tryz.func122, Tryz.ntmps122
  go_wp2
  go_loopw [5] (fun i wr => ∃ k : Nat, k ≤ l.length ∧ i = .int .i64 ((k : Int) - 1) ∧ Hi (l.drop k = m.drop k) ∧ ∃ n, wr = w.drewN n) (fun i _ => (intOf i + 1).toNat)
  case atStart => exact ⟨l.length, Nat.le_refl _, rfl, hdd (by rw [List.drop_length, HL.o, List.drop_length]), 0, rfl⟩
  case round =>
   obtain ⟨k, hk, rfl, hd, n, rfl⟩ := hrel
   by_cases hk0 : 0 < k
   ·
    obtain ⟨b1, off1, rfl, -, -⟩ := H4.o (by intro e; simp at e; subst e; simp at hk; omega)
    have hml : k ≤ m.length := by have := HL.o; omega
    obtain ⟨b2, off2, rfl, -, -⟩ := K4.o (by intro e; simp at e; subst e; simp at hml; omega)
    have hc1 := HU.o.cell (k - 1) (by omega)
    have hc2 := HV.o.cell (k - 1) (by have := HL.o; omega)
    have hcmp := hdd (z9h (k := k - 1) h3 k3 HL.o (by omega) (by rw [Nat.sub_add_cancel hk0]; exact hd.o))
    rcases Nat.lt_trichotomy (nth l (k - 1)) (nth m (k - 1)) with hlt | heq | hgt
    ·
     have hr : u3q (val l) (val m) = -1 := by unfold u3q; rw [if_pos (hcmp.o.1 hlt)]
     have HR := hdd hr
     clear hr
     go_wp2
     go_quiet (fail)
     go_wp2
     go_ret
     exact ⟨g4q (by rw [HR.o]), _, by simp only [World.drewN_drewN]; rfl⟩
    ·
     have hd' : Hi (l.drop (k - 1) = m.drop (k - 1)) := hdd (by
      have e1 : k - 1 + 1 = k := by omega
      rw [List.drop_eq_getElem_cons (show k - 1 < l.length by omega), List.drop_eq_getElem_cons (show k - 1 < m.length by omega), e1, hd.o, ← r1q, ← r1q, heq])
     have hge : ¬ nth l (k - 1) < nth m (k - 1) := by omega
     have hle : ¬ nth m (k - 1) < nth l (k - 1) := by omega
     clear heq
     go_wp2
     go_quiet (fail)
     go_wp2
     go_quiet (fail)
     go_wp2
     go_roundw
     case rel => exact ⟨k - 1, by omega, by go_num, hd', _, rfl⟩
     case measure => simp [intOf]; omega
    ·
     have hr : u3q (val l) (val m) = 1 := by unfold u3q; rw [if_neg (by have := hcmp.o.2 hgt; omega), if_pos (hcmp.o.2 hgt)]
     have HR := hdd hr
     clear hr
     have hge : ¬ nth l (k - 1) < nth m (k - 1) := by omega
     go_wp2
     go_quiet (fail)
     go_wp2
     go_quiet (fail)
     go_wp2
     go_ret
     exact ⟨g4q (by rw [HR.o]), _, by simp only [World.drewN_drewN]; rfl⟩
   ·
    have hk0' : k = 0 := by omega
    subst hk0'
    go_wp2
    go_ret
    refine ⟨g4q ?_, _, rfl⟩
    have : l = m := by simpa using hd.o
    rw [this]; simp [u3q]
 ·
  have hlen' : ((l.length : Int) != (m.length : Int)) = true := by simp; omega
  go_enter Tryz.func122, Tryz.ntmps122
  go_wp2_with fail
  refine (y1k _ _ _).mono ?_
  rintro e w' ⟨rfl, rfl⟩
  go_wp2_with fail
  go_ret
  refine ⟨g4q ?_, 0, rfl⟩
  unfold x5v u3q
  rcases Nat.lt_or_ge l.length m.length with h | h
  ·
   have := e6q h3 hm (by rintro rfl; simp at h) h
   rw [if_pos (by omega), if_pos this]
  ·
   have hlt : m.length < l.length := by omega
   have := e6q k3 hl (by rintro rfl; simp at hlt) hlt
   rw [if_neg (by omega), if_neg (by omega), if_pos this]
theorem uw : Tryz.prog.underlying 85 = some (.slice 125) := Tryz.underlying85
theorem t8q : (Tryz.prog.info? 125).map (fun i => (i.zero, i.size, i.bytes)) = some (some (.int .u32 0), 1, 4) := by kernel_rfl
theorem v0k : (Tryz.prog.info? 125).map (·.size) = some 1 := by kernel_rfl

theorem v5z (h : IsW w v l) (hx : 0 < l.length) :
  Calls Tryz.prog 87 #[v] w fun e w' => e = .returned (.slice (some ⟨w.heap.size, 0, none⟩) l.length l.length) ∧ Blk w' w.heap.size 125 l ∧ Below w.heap.size w w' ∧ w'.heap.size = w.heap.size + 1 := by
 have hx' : b8q l = false := by simp [b8q]; intro e; subst e; simp at hx
 have hl := h.len
 obtain ⟨a, cap, rfl, h1, h2, h3, h4, h5⟩ := id h
 have H := hdd h
 clear hx h3 h4 h5 h
 go_enter Tryz.func87, Tryz.ntmps87
 go_wp2_with fail
 refine (t7q H.o).mono ?_
 rintro e w' ⟨rfl, rfl⟩
 go_wp2_with (at_make; refine v3q rfl _ _ _ _ rfl uw t8q l.length rfl rfl hl ?_; intro w1 hb1 hbel hs1; refine y0q ?_)
 refine z2q ?_
 go_wp2_with ((with_reducible refine j0k ?_); refine m7q rfl (.tmp 9) (.tmp 10) _ _ rfl _ uw v0k _ 0 _ _ _ l _ _ rfl rfl (H.o.below hbel) hb1 qm (by simp) ?_; intro w2 hb2 hon; refine y0q ?_)
 refine z2q ?_
 go_wp2_with fail
 go_ret
 refine ⟨rfl, by simpa using hb2, q4q hbel hon qm, by rw [hon.size]; exact hs1.o⟩

theorem j9y (h : IsW w v l) :
  Calls Tryz.prog 87 #[v] w fun e w' => (∃ v', e = .returned v' ∧ IsW w' v' l ∧ (∀ b, v'.ownBlock = some b → w.heap.size ≤ b)) ∧ Below w.heap.size w w' := by
 by_cases hx : l.length = 0
 ·
  have hx' : b8q l = true := by simp [b8q, hx]
  obtain rfl : l = [] := List.eq_nil_of_length_eq_zero hx
  clear hx
  go_enter Tryz.func87, Tryz.ntmps87
  go_wp2_with fail
  refine (t7q h).mono ?_
  rintro e w' ⟨rfl, rfl⟩
  go_wp2_with fail
  go_ret
  exact ⟨⟨.slice none 0 0, rfl, IsW.nil _, by simp [Value.ownBlock]⟩, Below.refl _ _⟩
 ·
  refine (v5z h (by omega)).mono ?_
  rintro e w' ⟨rfl, hb, hbel, -⟩
  exact ⟨⟨_, rfl, hb.isW_all h.ws _ qm h.len, fun b hb => by simp [Value.ownBlock] at hb; omega⟩, hbel⟩

theorem c2q {e : TypeId} {vb : Value} (hL : Blk w B e L) (hw : Ws L) (hn : off + n ≤ L.length) (hlen : L.length ≤ 2147483648)
  (hb : IsW w vb lb) (hne : lb ≠ [] → vb.ownBlock ≠ some B) :
  Calls Tryz.prog 168 #[.slice (some ⟨B, off, none⟩) n cap, vb] w fun en w' => en = .returned (.tuple #[]) ∧
   ∃ L', Blk w' B e L' ∧ Ws L' ∧ L'.length = L.length ∧ z9q B w w' ∧ (∀ j, (j < off ∨ off + n ≤ j) → nth L' j = nth L j) ∧ pv L' off n = (pv L off n + val lb) % 4294967296 ^ n := by
 have HW := hdd hw
 have HB := hdd hb
 obtain ⟨ab, capb, rfl, h1, h2, h3, h4, h5⟩ := hb
 clear h3 h4 h5 hw
 go_enter Tryz.func168, Tryz.ntmps168
 go_wp2
 go_loopw [4, 8] (fun c i wr => ∃ (k cr : Nat) (M : List Nat), k ≤ n ∧ i = .int .i64 k ∧ c = .int .u64 cr ∧ cr ≤ 1 ∧ Blk wr B e M ∧ Hi (Ws M) ∧ Hi (M.length = L.length) ∧ z9q B w wr ∧
   Hi (∀ j, (j < off ∨ off + k ≤ j) → nth M j = nth L j) ∧ Hi (pv M off k + 4294967296 ^ k * cr = pv L off k + pv lb 0 k)) (fun _ i _ => n - (intOf i).toNat)
 case atStart => exact ⟨0, 0, L, Nat.zero_le _, rfl, rfl, by omega, hL, HW, hdd rfl, z9q.refl _ _, hdd (fun _ _ => rfl), hdd (by simp [x2q])⟩
 case round =>
  obtain ⟨k, cr, M, hk, rfl, rfl, hcr, hM, hMw, hMl, hon, hsame, hval⟩ := hrel
  by_cases hkn : k < n
  ·
   have hx := y1q hMw.o (off + k)
   have hy := y1q HB.o.ws k
   have hcell := hM.cell (off + k) (by have := hMl.o; omega)
   have hfree := hM.free (off + k)
   have w1 : IntKind.u64.wrap (nth M (off + k) : Int) = (nth M (off + k) : Int) := IntWalk.u64_in _ (by omega)
   have w2 : IntKind.u64.wrap ((nth M (off + k) : Int) + (nth lb k : Int)) = (nth M (off + k) : Int) + (nth lb k : Int) := IntWalk.u64_in _ (by omega)
   have w3 : IntKind.u64.wrap ((cr : Int) + ((nth M (off + k) : Int) + (nth lb k : Int))) = (cr : Int) + ((nth M (off + k) : Int) + (nth lb k : Int)) := IntWalk.u64_in _ (by omega)
   by_cases hkl : lb.length ≤ k
   ·
    by_cases hc0 : cr = 0
    ·
     subst hc0
     clear w1 w2 w3
     go_wp2
     refine bodyPost_ret (results_none rfl _ _ _) rfl ?_
     refine ⟨rfl, M, hM, hMw.o, hMl.o, hon, fun j hj => hsame.o j (by omega), ?_⟩
     exact x4z hMw.o hk hkl (fun j hj => hsame.o j (Or.inr hj)) hval.o
    ·
     have hc0' : ((cr : Int) == 0) = false := by simp; omega
     clear hc0
     go_wp2
     go_quiet ((go_at_call 152; exact q3k (q5y ((HB.o.only0 hon hne).drewN _) _)))
     clear w1 w2 w3
     go_wp2
     go_roundw
     case rel =>
      exact ⟨k + 1, (cr + (nth M (off + k) + nth lb k)) / 4294967296, M.set (off + k) ((cr + (nth M (off + k) + nth lb k)) % 4294967296), by omega, by go_num, by go_num, by omega,
       (hM.drewN nq).setCell (off + k) _ _ (by unfold U; go_num), hdd (u0q hMw.o _ (by omega)), hdd (by rw [List.length_set]; exact hMl.o), (hon.drewN nq).setCell _ _,
       hdd (fun j hj => by rw [u8q _ _ _ _ (by omega)]; exact hsame.o j (by omega)),
       hdd (j3v (by have := hMl.o; omega) rfl (hsame.o _ (by omega)) hval.o)⟩
     case measure => simp [intOf]; omega
   ·
    go_wp2
    go_quiet ((go_at_call 152; exact q3k (q5y ((HB.o.only0 hon hne).drewN _) _)))
    clear w1 w2 w3
    go_wp2
    go_roundw
    case rel =>
     exact ⟨k + 1, (cr + (nth M (off + k) + nth lb k)) / 4294967296, M.set (off + k) ((cr + (nth M (off + k) + nth lb k)) % 4294967296), by omega, by go_num, by go_num, by omega,
      (hM.drewN nq).setCell (off + k) _ _ (by unfold U; go_num), hdd (u0q hMw.o _ (by omega)), hdd (by rw [List.length_set]; exact hMl.o), (hon.drewN nq).setCell _ _,
      hdd (fun j hj => by rw [u8q _ _ _ _ (by omega)]; exact hsame.o j (by omega)),
      hdd (j3v (by have := hMl.o; omega) rfl (hsame.o _ (by omega)) hval.o)⟩
    case measure => simp [intOf]; omega
  ·
   obtain rfl : k = n := by omega
   go_wp2
   go_end0
   exact ⟨rfl, M, hM, hMw.o, hMl.o, hon, fun j hj => hsame.o j hj, v5h hMw.o hval.o⟩
end Go.Proofs.YtkkbmlkpgknhgaaGreat
