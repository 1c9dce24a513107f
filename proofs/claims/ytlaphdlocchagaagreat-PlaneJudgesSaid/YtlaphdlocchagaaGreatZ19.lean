/- Several texts in one: Th, Ld, Tg, S1. -/
import Derived.Test.YtlaphdlocchagaaGreatZ18
import Derived.Test.YtlaphdlocchagaaGreatZ16
import Derived.Deep.DrawnRows
import Derived.Test.YtlaphdlocchagaaGreatZ15
import Derived.Deep.AppendLies
import Derived.Laws.BytesString
/- The reference's words: division, the small cases; the whole. -/
namespace Go.Proofs.YtlaphdlocchagaaGreat
open Go.RowKit

set_option maxRecDepth 100000 in
set_option maxHeartbeats 2000000 in
theorem rparts_less {w : World} {u v : Value} {x y : Nat} (hu : IsW w u (digs x)) (hv : IsW w v (digs y)) (hxy : x < y) :
    Calls Tryz.prog 159 #[u, v] w (PartsPost w x y) := by
  have hcmp : cmpN x y = -1 := by unfold cmpN; rw [if_pos hxy]
  have HB0 : Hid (∀ o, Below w.heap.size w (w.alloc o)) := Lib.hid (fun o => (Below.refl _ _).alloc (Nat.le_refl _) o)
  have hO := Lib.hid (fun w' (hb : Below w.heap.size w w') => rorder_d (w := w') (x := x) (y := y) (hu.below hb) (hv.below hb))
  rw [hcmp] at hO
  have HU := Lib.hid hu
  have HD : Hid (x / y = 0 ∧ x % y = x) := Lib.hid ⟨Nat.div_eq_of_lt hxy, Nat.mod_eq_of_lt hxy⟩
  obtain ⟨ua, un, uc, hue⟩ := hu.form
  subst hue
  obtain ⟨va, vn, vc, hve⟩ := hv.form
  subst hve
  clear hu hv hxy hcmp
  go_enter Tryz.func159, Tryz.ntmps159
  go_wp2_with fail
  refine (hO.out _ (HB0.out _)).mono ?_
  rintro en w0 ⟨rfl, n0, rfl⟩
  obtain ⟨w1, hw1⟩ : ∃ w1, w1 = (w.alloc (Obj.cells #[Value.slice none 0 0, Value.slice none 0 0] 154)).drewN n0 := ⟨_, rfl⟩
  rw [← hw1]
  have HB1 : Hid (Below w.heap.size w w1) := Lib.hid (by rw [hw1]; exact below_drewN (HB0.out _) n0)
  have HR1 : Hid (w1.heap[w.heap.size]? = some (.cells #[Value.slice none 0 0, Value.slice none 0 0] 154 (0, 0))) := Lib.hid (by rw [hw1]; exact heap_alloc_new w _)
  have r0 : w1.cell? ⟨w.heap.size, 0, none⟩ = some (Value.slice none 0 0) := by rw [cell_of_row _ _ _ _ _ _ HR1.out]; rfl
  have r1 : w1.cell? ⟨w.heap.size, 1, none⟩ = some (Value.slice none 0 0) := by rw [cell_of_row _ _ _ _ _ _ HR1.out]; rfl
  have f0 := frozen_of_row _ _ 0 _ _ HR1.out
  have f1 := frozen_of_row _ _ 1 _ _ HR1.out
  clear hw1
  go_wp2_with fail
  exact bodyPost_ret (results_cell_row rfl _ _ w.heap.size _ _ _ _ rfl (two3_heap HR1.out) Tryz.underlying154 rfl iparts) rfl ⟨⟨_, _, rfl, by rw [HD.out.1, digs_zero]; exact IsW.nil _, by rw [HD.out.2]; exact (HU.out.below HB1.out).other HR1.out two_zero (two3_only _ _ _ _)⟩, below_only HB1.out (two3_only _ _ _ _) (by omega)⟩

set_option maxRecDepth 100000 in
set_option maxHeartbeats 2000000 in
theorem rparts_word {w : World} {u v : Value} {x y : Nat} (hu : IsW w u (digs x)) (hv : IsW w v (digs y)) (h1 : (digs y).length = 1) (hyx : y ≤ x) :
    Calls Tryz.prog 159 #[u, v] w (PartsPost w x y) := by
  have hcmp : ¬ cmpN x y < 0 := by unfold cmpN; rw [if_neg (by omega)]; split <;> omega
  have hcd : decide (cmpN x y < 0) = false := by simp; omega
  have HCMP := Lib.hid hcmp
  have hy0 : 0 < y := by
    rcases Nat.eq_zero_or_pos y with h | h
    · rw [h, digs_zero] at h1; simp at h1
    · exact h
  have hyw : y < 4294967296 := by have := len_digs_le.1 (Nat.le_of_eq h1); omega
  have hn0 : nth (digs y) 0 = y := by
    have h := val_digs y
    match hd : digs y, h1 with
    | [d], _ => rw [hd] at h; simpa [val, nth] using h
  have HB0 : Hid (∀ o, Below w.heap.size w (w.alloc o)) := Lib.hid (fun o => (Below.refl _ _).alloc (Nat.le_refl _) o)
  have hO := Lib.hid (fun w' (hb : Below w.heap.size w w') => rorder_d (w := w') (x := x) (y := y) (hu.below hb) (hv.below hb))
  have hH := Lib.hid (fun w' (hb : Below w.heap.size w w') => rhalves_w (w := w') (x := x) (by_ := y) (hu.below hb) hy0 hyw)
  have hcell0 : Hid (∀ (b off cap : Nat), v = .slice (some ⟨b, off, none⟩) (digs y).length cap → w.cell? ⟨b, off + 0, none⟩ = some (.int .u32 (nth (digs y) 0))) := Lib.hid (fun b off cap he => (he ▸ hv).cell 0 (by omega))
  obtain ⟨ua, un, uc, hue⟩ := hu.form
  subst hue
  obtain ⟨b, bcap, rfl, k1, k2, k3, k4, k5⟩ := hv
  obtain ⟨bb, boff, rfl, hblt, -⟩ := k4 (by intro e; simp at e; rw [e] at h1; simp at h1)
  have hc0 := hcell0.out bb boff bcap rfl
  rw [hn0, Nat.add_zero] at hc0
  have HYW := Lib.hid hyw
  have HY0 := Lib.hid hy0
  rw [h1] at hO ⊢
  clear k1 k2 k3 k4 k5 hcmp hyx hu hy0 hyw hn0 hcell0 h1
  go_enter Tryz.func159, Tryz.ntmps159
  go_wp2_with fail
  refine (hO.out _ (HB0.out _)).mono ?_
  rintro en w0 ⟨rfl, n0, rfl⟩
  obtain ⟨w1, hw1⟩ : ∃ w1, w1 = (w.alloc (Obj.cells #[Value.slice none 0 0, Value.slice none 0 0] 154)).drewN n0 := ⟨_, rfl⟩
  rw [← hw1]
  have HB1 : Hid (Below w.heap.size w w1) := Lib.hid (by rw [hw1]; exact below_drewN (HB0.out _) n0)
  have HR1 : Hid (w1.heap[w.heap.size]? = some (.cells #[Value.slice none 0 0, Value.slice none 0 0] 154 (0, 0))) := Lib.hid (by rw [hw1]; exact heap_alloc_new w _)
  have hc1 : w1.cell? ⟨bb, boff, none⟩ = some (.int .u32 (y : Int)) := by rw [HB1.out.cell (p := ⟨bb, boff, none⟩) hblt]; exact hc0
  clear hw1 hc0
  go_wp2_with fail
  refine (hH.out _ HB1.out).mono ?_
  rintro en w2 ⟨⟨q, rfl, hq, -⟩, hb2⟩
  obtain ⟨qa, qn, qc, hqe⟩ := hq.form
  subst hqe
  have HQ2 := Lib.hid hq
  have HB2 := Lib.hid (below_trans HB1.out hb2)
  have HR2 := Lib.hid ((hb2.block _ (lt_of_block HR1.out)).trans HR1.out)
  obtain ⟨r, hr⟩ : ∃ r, r = x % y := ⟨_, rfl⟩
  have HRR := Lib.hid hr
  have HRW : Hid (r < 4294967296) := Lib.hid (by rw [hr]; have h9 := HYW.out; have := Nat.mod_lt x HY0.out; omega)
  rw [← hr]
  clear hr hq hb2
  go_wp2_with fail
  obtain ⟨w3, hw3⟩ : ∃ w3, w3 = w2.alloc (Obj.cells #[Value.int IntKind.u32 (r : Int)] 124) := ⟨_, rfl⟩
  have hB : Blk w3 w2.heap.size 124 [r] := by
    rw [hw3]
    show (w2.heap.push _)[w2.heap.size]? = _
    simp [U]
  have hb3 : Below w2.heap.size w2 w3 := by rw [hw3]; exact (Below.refl _ _).alloc (Nat.le_refl _) _
  rw [← hw3]
  have HI := Lib.hid (hB.isW_all (by intro z hz; simp at hz; have := HRW.out; omega) 1 (by simp) (by simp))
  have HQ3 := Lib.hid (HQ2.out.below hb3)
  have HB3 := Lib.hid (below_trans HB2.out hb3)
  have HR3 := Lib.hid ((hb3.block _ (lt_of_block HR2.out)).trans HR2.out)
  clear hw3 hB hb3
  refine (rtrim_d HI.out (x := r) (by simp [val])).mono ?_
  rintro en w4 ⟨⟨t, rfl, ht, -⟩, rfl⟩
  obtain ⟨ta, tn, tc, hte⟩ := ht.form
  subst hte
  have HT3 := Lib.hid ht
  have r0 : w3.cell? ⟨w.heap.size, 0, none⟩ = some (Value.slice none 0 0) := by rw [cell_of_row _ _ _ _ _ _ HR3.out]; rfl
  have r1 : w3.cell? ⟨w.heap.size, 1, none⟩ = some (Value.slice none 0 0) := by rw [cell_of_row _ _ _ _ _ _ HR3.out]; rfl
  have f0 := frozen_of_row _ _ 0 _ _ HR3.out
  have f1 := frozen_of_row _ _ 1 _ _ HR3.out
  clear ht
  go_wp2_with fail
  exact bodyPost_ret (results_cell_row rfl _ _ w.heap.size _ _ _ _ rfl (two3_heap HR3.out) Tryz.underlying154 rfl iparts) rfl ⟨⟨_, _, rfl, HQ3.out.other HR3.out two_zero (two3_only _ _ _ _), by rw [← HRR.out]; exact HT3.out.other HR3.out two_zero (two3_only _ _ _ _)⟩, below_only HB3.out (two3_only _ _ _ _) (by omega)⟩

/-- Division, of any numbers but by 0. -/
theorem rparts_w {w : World} {u v : Value} {x y : Nat} (hu : IsW w u (digs x)) (hv : IsW w v (digs y)) (hy : 0 < y) (hlb : (digs x).length < 1073741824) :
    Calls Tryz.prog 159 #[u, v] w (PartsPost w x y) := by
  by_cases hxy : x < y
  · exact rparts_less hu hv hxy
  · by_cases h1 : (digs y).length = 1
    · exact rparts_word hu hv h1 (by omega)
    · refine rparts_long rfl rfl hu hv ?_ (by omega) hlb
      have h2 : (digs y).length ≠ 0 := by rw [digs_pos (by omega)]; simp
      omega
end Go.Proofs.YtlaphdlocchagaaGreat

/- FracOrder: the walk. -/
namespace Go.Proofs.YtlaphdlocchagaaGreat
open Go.RowKit
attribute [local go_sem ↓] Go.wp_at_zero Go.wp_at_succ

/-- Three numbers, by their places. -/
def at3 (a b c : Nat) (i : Nat) : Nat := if i = 0 then a else if i = 1 then b else c
/-- Cells that stand in every later world. -/
theorem cells_later {w : World} {g : Nat} {cs : Array Value} {t : TypeId} {fr : Nat × Nat} (h : w.heap[g]? = some (.cells cs t fr)) :
    ∀ (o : Nat) (v : Value), cs[o]? = some v → ∀ w', Below w.heap.size w w' → w'.cell? ⟨g, o, none⟩ = some v :=
  fun o v k w' hb => by rw [cell_of_row _ _ _ _ _ _ ((hb.block _ (lt_of_block h)).trans h)]; exact k

theorem digs_one : digs 1 = [1] := by unfold digs; simp [digs]
theorem len_one : lenQ 1 = 2 := by
  have e1 : digs (1 : Rat).num.natAbs = [1] := by show digs 1 = [1]; exact digs_one
  have e2 : digs (1 : Rat).den = [1] := by show digs 1 = [1]; exact digs_one
  unfold lenQ; rw [e1, e2]; simp
/-- The words of 1. -/
theorem one_form {w : World} {v : Value} (h : IsW w v [1]) : ∃ b off cap, v = .slice (some ⟨b, off, none⟩) 1 cap ∧ ∀ w', Below w.heap.size w w' → w'.cell? ⟨b, off, none⟩ = some (.int .u32 1) := by
  obtain ⟨a, cap, rfl, h1, h2, h3, h4, h5⟩ := id h
  obtain ⟨b, off, rfl, -, -⟩ := h4 (by simp)
  exact ⟨b, off, cap, rfl, fun w' hb => (h.below hb).cell 0 (by simp)⟩
theorem frac_one {b : Bool} {a i : Option Addr} {n c j k : Nat} : ∀ v ∈ (#[Value.bool b, Value.slice a n c, Value.slice i j k] : Array Value).toList, v.oneCell' = true := by
  intro v hv; simp at hv; rcases hv with rfl | rfl | rfl <;> rfl

end Go.Proofs.YtlaphdlocchagaaGreat

/- Exact, of the reference: fractions that are written alike. -/
namespace Go.Proofs.YtlaphdlocchagaaGreat
open Go.RowKit

theorem slice_at {w : World} {v : Value} {l : List Nat} (h : IsW w v l) : ∃ a c, v = .slice a l.length c ∧ (0 < l.length → ∃ b off, a = some ⟨b, off, none⟩ ∧ ∀ j, j < l.length → w.cell? ⟨b, off + j, none⟩ = some (.int .u32 (nth l j))) := by
  obtain ⟨a, c, rfl, h1, h2, h3, h4, h5⟩ := id h
  refine ⟨a, c, rfl, fun hp => ?_⟩
  obtain ⟨b, off, rfl, -, -⟩ := h4 (by intro e; simp at e; subst e; simp at hp)
  exact ⟨b, off, rfl, fun j hj => h.cell j hj⟩

end Go.Proofs.YtlaphdlocchagaaGreat

/- Decimal digits: arithmetic alone. -/
namespace Go.Proofs.YtlaphdlocchagaaGreat

/-- So many decimal digits of x, the least first, as bytes. -/
def bw (x n : Nat) : List Nat := (List.range n).map (fun i => 48 + x / 10 ^ i % 10)
theorem bw_len (x n : Nat) : (bw x n).length = n := by simp [bw]
theorem bw_succ (x n : Nat) : bw x (n + 1) = bw x n ++ [48 + x / 10 ^ n % 10] := by simp [bw, List.range_succ]
theorem bw_get {x n i : Nat} (h : i < n) : nth (bw x n) i = 48 + x / 10 ^ i % 10 := by
  simp [nth, bw, List.getD_eq_getElem?_getD, h]
theorem bw_lt (x n : Nat) : ∀ c ∈ bw x n, c < 256 := by
  intro c hc
  simp only [bw, List.mem_map, List.mem_range] at hc
  obtain ⟨i, -, rfl⟩ := hc
  omega

/-- How many decimal digits. -/
def ndig (x : Nat) : Nat := if h : x = 0 then 0 else ndig (x / 10) + 1
termination_by x
decreasing_by omega
theorem ndig_zero : ndig 0 = 0 := by unfold ndig; simp
theorem ndig_pos {x : Nat} (h : x ≠ 0) : ndig x = ndig (x / 10) + 1 := by rw [ndig]; simp [h]
theorem ndig_le {x k : Nat} : ndig x ≤ k ↔ x < 10 ^ k := by
  induction k generalizing x with
  | zero =>
    by_cases h : x = 0
    · subst h; simp [ndig_zero]
    · simp [ndig_pos h]; omega
  | succ k ih =>
    by_cases h : x = 0
    · subst h; simp [ndig_zero]; exact Nat.pos_of_ne_zero (by simp)
    · rw [ndig_pos h, Nat.add_le_add_iff_right, ih, Nat.pow_succ]
      exact Nat.div_lt_iff_lt_mul (by omega)
/-- A number in decimal digits, as bytes. -/
def decS (x : Nat) : List Nat := if x = 0 then [48] else (bw x (ndig x)).reverse
theorem decS_lt (x : Nat) : ∀ c ∈ decS x, c < 256 := by
  intro c hc
  unfold decS at hc
  split at hc
  · simp at hc; omega
  · exact bw_lt _ _ c (List.mem_reverse.1 hc)
/-- The last digit of so many is a nought just if fewer do. -/
theorem bw_top {x n : Nat} (h : x < 10 ^ (n + 1)) : (48 + x / 10 ^ n % 10 = 48) ↔ x < 10 ^ n := by
  have h1 : x / 10 ^ n < 10 := (Nat.div_lt_iff_lt_mul (Nat.pow_pos (by omega))).2 (by rw [Nat.pow_succ, Nat.mul_comm] at h; exact h)
  rw [Nat.mod_eq_of_lt h1]
  constructor
  · intro h2
    have h3 : x / 10 ^ n = 0 := by omega
    rcases Nat.lt_or_ge x (10 ^ n) with h4 | h4
    · exact h4
    · exfalso
      have := Nat.div_pos h4 (Nat.pow_pos (by omega))
      omega
  · intro h2; rw [Nat.div_eq_of_lt h2]
/-- A digit out of a piece of nine. -/
theorem piece_digit {x y t j : Nat} (hy : y = x / 10 ^ j) (ht : t < 9) : y % 1000000000 / 10 ^ t % 10 = x / 10 ^ (j + t) % 10 := by
  subst hy
  rw [Nat.pow_add, ← Nat.div_div_eq_div_mul]
  generalize x / 10 ^ j = y
  have e : (1000000000 : Nat) = 10 ^ t * (10 * 10 ^ (8 - t)) := by
    rw [← Nat.pow_succ', ← Nat.pow_add, show t + (8 - t + 1) = 9 by omega]
  rw [e, Nat.mod_mul_right_div_self, Nat.mod_mul_right_mod]

end Go.Proofs.YtlaphdlocchagaaGreat

/- A number's decimal digits: the walk. -/
namespace Go.Proofs.YtlaphdlocchagaaGreat
open Go.RowKit

/-- A byte as a value. -/
def By (n : Nat) : Value := .int .u8 n
theorem iu8 : (Tryz.prog.info? 5).map (fun i => (i.zero, i.size, i.bytes)) = some (some (.int .u8 0), 1, 1) := by kernel_rfl

/-- The bytes of a block that is all bytes. -/
def BlkB (w : World) (B : Nat) (e : TypeId) (l : List Nat) : Prop := w.heap[B]? = some (.cells (l.map By).toArray e (0, 0))
theorem BlkB.cell {w : World} {B : Nat} {e : TypeId} {l : List Nat} (h : BlkB w B e l) (j : Nat) (hj : j < l.length) : w.cell? ⟨B, j, none⟩ = some (.int .u8 (nth l j)) := by
  have h' : w.heap[B]? = some (.cells (l.map By).toArray e (0, 0)) := h
  simp [World.cell?, h', By, nth, List.getD_eq_getElem?_getD, List.getElem?_eq_getElem hj]
theorem BlkB.free {w : World} {B : Nat} {e : TypeId} {l : List Nat} (h : BlkB w B e l) (j : Nat) : w.frozen? ⟨B, j, none⟩ = false := by
  have h' : w.heap[B]? = some (.cells (l.map By).toArray e (0, 0)) := h
  simp [World.frozen?, h']
theorem BlkB.setCell {w : World} {B : Nat} {e : TypeId} {l : List Nat} (h : BlkB w B e l) (k x : Nat) (v : Value) (hv : v = By x) : BlkB (w.setCell ⟨B, k, none⟩ v) B e (l.set k x) := by
  have h' : w.heap[B]? = some (.cells (l.map By).toArray e (0, 0)) := h
  subst hv
  simp [BlkB, World.setCell, Array.getElem?_modify, h', List.map_set]
theorem BlkB.own {w : World} {B base : Nat} {e : TypeId} {l : List Nat} (h : BlkB w B e l) (hb : base ≤ B) (hl : l.length ≤ maxLen) : w.ownsRow base e 1 (.slice (some ⟨B, 0, none⟩) l.length l.length) l.length (l.map By) :=
  ⟨by simp, .inr ⟨B, l.length, _, rfl, hb, h, Nat.le_refl _, hl, by simp, List.take_of_length_le (by simp)⟩⟩

theorem wpList_make_bytes {P : Program} {w : World} {ops : Array Oper} {rest : List Oper} {o : Oper} {a : Act} {Q : Exit → Act → World → Prop}
    (hg : o.guard = none) (l c : Operand) (t e : TypeId) (hop : o.op = Op.makeSlice t l c) (h1 : P.underlying t = some (.slice e))
    (h2 : (P.info? e).map (fun i => (i.zero, i.size, i.bytes)) = some (some (.int .u8 0), 1, 1)) (n : Nat) (hl : a.eval l = .int .i64 n) (hc : a.eval c = .int .i64 n) (hn : n ≤ 1073741824)
    (hK : ∀ w', BlkB w' w.heap.size e (List.replicate n 0) → Below w.heap.size w w' → Hid (w'.heap.size = w.heap.size + 1) → wpList P ops Q rest (a.put o.dst (.slice (some ⟨w.heap.size, 0, none⟩) n n)) w') :
    wpList P ops Q (o :: rest) a w := by
  obtain ⟨i, hi, hz, hs, hb⟩ := info_parts h2
  refine wpList_plain hg fun K hK' => ?_
  have hr := run_make (P := P) w t e i _ h1 hi hz .i64 .i64 n n (by omega) (Int.le_refl _) (by rw [hb]; omega) (by omega)
  simp only [Int.toNat_natCast, hs, Value.cells, madeCells_one, Nat.mul_one] at hr
  unfold Oper.wp
  simp [execOp, hop, hl, hc, hr, Result.andThen]
  refine hK' _ _ (hK _ ?_ ((Below.refl _ _).alloc (Nat.le_refl _) _) (Lib.hid (by simp)))
  show (w.heap.push _)[w.heap.size]? = _
  simp [By]

end Go.Proofs.YtlaphdlocchagaaGreat

/- Fractions as texts: bytes put behind one another, bytes as a string. -/
namespace Go.Proofs.YtlaphdlocchagaaGreat
open Go.RowKit

/-- Bytes as a string. -/
def strL (L : List Nat) : ByteArray := ⟨(L.map UInt8.ofNat).toArray⟩
/-- A row of bytes of the call's own. -/
def OwnB (w : World) (base : Nat) (v : Value) (L : List Nat) : Prop := w.ownsRow base 5 1 v L.length (L.map By)
theorem OwnB.below {w w' : World} {base : Nat} {v : Value} {L : List Nat} (h : OwnB w base v L) (hb : Below w.heap.size w w') : OwnB w' base v L := by
  refine World.ownsRow.kept (row := none) h ⟨hb.os, hb.tape, hb.output, hb.size, fun k hk _ => hb.block k hk⟩ ?_
  cases hv : v.ownBlock <;> simp
theorem OwnB.nil (w : World) (base : Nat) : OwnB w base (.slice none 0 0) [] := World.ownsRow_nil w base _ 1
theorem OwnB.form {w : World} {base : Nat} {v : Value} {L : List Nat} (h : OwnB w base v L) (hL : L ≠ []) : ∃ g cap, v = .slice (some ⟨g, 0, none⟩) L.length cap ∧ ∀ j u, (L.map By)[j]? = some u → w.cell? ((⟨g, 0, none⟩ : Addr).add j) = some u := by
  have hc := fun g hg => World.ownsRow.cells h (g := g) hg
  rcases h.2 with ⟨rfl, h0⟩ | ⟨g, cap, cur, rfl, _, _, _, _, _, _⟩
  · exact absurd (List.eq_nil_of_length_eq_zero h0) hL
  · exact ⟨g, cap, rfl, hc g rfl⟩

theorem wpList_app_bytes {P : Program} {w0 w : World} {ops : Array Oper} {rest : List Oper} {o : Oper} {a : Act} {Q : Exit → Act → World → Prop} (hgd : o.guard = none) (s x : Operand) (t : TypeId)
    (ho : o.op = .call { callee := .builtin .append, args := #[s, x], argTypes := #[t, t] }) (ht : P.underlying t = some (.slice 5))
    (hi : (P.info? 5).map (fun i => (i.zero, i.size, i.bytes)) = some (some (.int .u8 0), 1, 1))
    (v : Value) (L : List Nat) (hs : a.eval s = v) (hown : OwnB w w0.heap.size v L) (hb : Below w0.heap.size w0 w)
    (g m c : Nat) (M : List Nat) (hx : a.eval x = .slice (some ⟨g, 0, none⟩) m c) (hm : M.length = m) (hcell : ∀ j u, (M.map By)[j]? = some u → w.cell? ((⟨g, 0, none⟩ : Addr).add j) = some u)
    (h63 : L.length + m ≤ 1000000)
    (h : ∀ v' w', OwnB w' w0.heap.size v' (L ++ M) → Below w0.heap.size w0 w' → wpList P ops Q rest (a.put o.dst v') w') : wpList P ops Q (o :: rest) a w := by
  obtain ⟨i, hi, hz, hs1, hb1⟩ := info_parts hi
  subst hm
  refine wpList_append_own_at w hgd s x t ho w0.heap.size 5 i (.int .u8 0) 1 1 ht hi hz hs1 hb1 rfl (by decide) v L.length (L.map By) hs hown ⟨g, 0, none⟩ M.length c (M.map By) hx (by simp) hcell ?_ (by unfold maxLen; omega) (by omega) hb.size ?_
  · intro u hu
    obtain ⟨n, _, rfl⟩ := List.mem_map.1 hu
    rfl
  · intro v' w' hown' hgrow _ _
    refine h v' w' ?_ (hb.grown hgrow hb.size (fun k hk => (World.ownsRow.lt hown k hk).1))
    unfold OwnB
    rw [List.length_append, List.map_append]
    exact hown'

theorem foldl_push (ns : List Nat) : ∀ s : ByteArray, (ns.map (fun n : Nat => (n : Int))).foldl (fun r n => r.push (UInt8.ofNat n.toNat)) s = ⟨s.data ++ (ns.map UInt8.ofNat).toArray⟩ := by
  induction ns with
  | nil => intro s; simp
  | cons n ns ih =>
    intro s
    simp only [List.map_cons, List.foldl_cons, Int.toNat_natCast]
    rw [ih]
    simp [ByteArray.push]
/-- A fraction as text. -/
def tailL (q : Rat) : List Nat := if q.den = 1 then [] else 47 :: decS q.den
def headL (b : Bool) : List Nat := if b then [45] else []
def printL (q : Rat) : List Nat := headL (decide (q.num < 0)) ++ decS q.num.natAbs ++ tailL q
end Go.Proofs.YtlaphdlocchagaaGreat

/- frac.Print: the walk. -/
namespace Go.Proofs.YtlaphdlocchagaaGreat
open Go.RowKit

theorem own_form {w : World} {base : Nat} {v : Value} {L : List Nat} (h : OwnB w base v L) : ∃ g n c, v = .slice g n c := by
  rcases h.2 with ⟨rfl, _⟩ | ⟨g, cap, cur, rfl, _⟩
  · exact ⟨_, _, _, rfl⟩
  · exact ⟨_, _, _, rfl⟩
theorem rat_one' {b : Bool} {a i : Option Addr} {n c j k : Nat} : ∀ v ∈ (#[Value.slice a n c, Value.bool b, Value.slice i j k] : Array Value).toList, v.oneCell' = true := by
  intro v hv; simp at hv; rcases hv with rfl | rfl | rfl <;> rfl

theorem dec_ne (x : Nat) : decS x ≠ [] := by
  unfold decS
  by_cases h : x = 0
  · rw [if_pos h]; simp
  · rw [if_neg h]
    intro e
    have h1 := congrArg List.length e
    rw [List.length_reverse, bw_len, ndig_pos h] at h1
    simp at h1
theorem dec_len {x : Nat} (h : (digs x).length ≤ 4096) : (decS x).length ≤ 50000 := by
  unfold decS
  by_cases h0 : x = 0
  · rw [if_pos h0]; simp
  · rw [if_neg h0, List.length_reverse, bw_len]
    have h1 : x < 4294967296 ^ (digs x).length := len_digs_le.1 (Nat.le_refl _)
    generalize (digs x).length = n at h h1
    have h2 : 4294967296 ^ n ≤ (10 ^ 11) ^ n := Nat.pow_le_pow_left (by decide) n
    rw [← Nat.pow_mul] at h2
    have h3 : ndig x ≤ 11 * n := ndig_le.2 (Nat.lt_of_lt_of_le h1 h2)
    omega

end Go.Proofs.YtlaphdlocchagaaGreat

/- half, of the statements. -/
namespace Go.Proofs.YtlaphdlocchagaaGreat
open Go.RowKit

theorem dec_small {n : Nat} (h0 : n ≠ 0) (h : n < 10) : decS n = [48 + n] := by
  have h1 : n / 10 = 0 := by omega
  unfold decS
  rw [if_neg h0, ndig_pos h0, h1, ndig_zero]
  simp [bw]
  omega
theorem half_make : makeQ (-2) (-4) = mkRat 1 2 := by decide +kernel
theorem half_print : strL (printL (mkRat 1 2)) = ⟨#[49, 47, 50]⟩ := by
  have e1 : (mkRat 1 2).num = 1 := by decide +kernel
  have e2 : (mkRat 1 2).den = 2 := by decide +kernel
  have h1 : decS 1 = [49] := dec_small (by decide) (by decide)
  have h2 : decS 2 = [50] := dec_small (by decide) (by decide)
  unfold printL tailL
  rw [e1, e2]
  show strL ([] ++ decS 1 ++ 47 :: decS 2) = _
  rw [h1, h2]
  rfl
theorem half_len : lenQ (mkRat 1 2) ≤ 4096 := by
  have e1 : (mkRat 1 2).num = 1 := by decide +kernel
  have e2 : (mkRat 1 2).den = 2 := by decide +kernel
  have h1 : (digs (1 : Int).natAbs).length ≤ 1 := len_digs_le.2 (by decide)
  have h2 : (digs 2).length ≤ 1 := len_digs_le.2 (by decide)
  unfold lenQ
  rw [e1, e2]
  omega

end Go.Proofs.YtlaphdlocchagaaGreat
