/- Lists of numbers of the machine, and lists of such lists, as they lie in memory; blocks of the call's own. -/
import Derived.Test.YtomnnickiljkgaaHb
import Derived.Test.YtomnnickiljkgaaProg
import Derived.WalkKit
import Derived.WalkSpells
import Derived.WalkLawsBesides
import Derived.Lib.Hide
import Derived.Laws.CopyOwn
import Derived.BigQuiet
import Derived.Deep.QuietTactic
import Derived.Deep.DrawnRows
namespace Go.Proofs.Ytomnnickiljkgaa
open Go.RowKit
attribute [local go_sem ↓] Go.wp_at_zero Go.wp_at_succ

/-- To stop a walk behind a law, and to go on. -/
theorem halt {p : Prop} (h : Hid p) : p := h
theorem go_on {p : Prop} (h : p) : Hid p := h
/-- Nothing but the block B has turned, and no block is new. -/
structure Only (B : Nat) (w w' : World) : Prop where
  os : w'.os = w.os
  tape : w'.tape = w.tape
  output : w'.output = w.output
  size : w'.heap.size = w.heap.size
  block : ∀ k, k ≠ B → w'.heap[k]? = w.heap[k]?
theorem Only.refl (B : Nat) (w : World) : Only B w w := ⟨rfl, rfl, rfl, rfl, fun _ _ => rfl⟩
theorem Only.trans {B : Nat} {a b c : World} (h : Only B a b) (k : Only B b c) : Only B a c :=
  ⟨k.os.trans h.os, k.tape.trans h.tape, k.output.trans h.output, k.size.trans h.size, fun i hi => (k.block i hi).trans (h.block i hi)⟩
theorem Only.setCell {B : Nat} {a w : World} (h : Only B a w) (i : Nat) (v : Value) : Only B a (w.setCell ⟨B, i, none⟩ v) :=
  h.trans ⟨rfl, rfl, rfl, by simp [World.setCell], fun k hk => Below.heap_setCell _ _ _ _ (by simpa using hk)⟩
theorem Only.below {B N : Nat} {w w' : World} (h : Only B w w') (hN : N ≤ B) : Below N w w' :=
  ⟨h.os, h.tape, h.output, Nat.le_of_eq h.size.symm, fun k hk => h.block k (by omega)⟩
theorem below_only {N B : Nat} {a w w' : World} (h : Below N a w) (k : Only B w w') (hN : N ≤ B) : Below N a w' := h.trans (k.below hN)
theorem below_drewN {B : Nat} {a w : World} (h : Below B a w) (n : Nat) : Below B a (w.drewN n) := ⟨h.os, h.tape, h.output, h.size, h.block⟩
theorem below_trans {a b c : World} (h : Below a.heap.size a b) (k : Below b.heap.size b c) : Below a.heap.size a c := h.trans (k.mono h.size)
/-- A cell that is there stays there. -/
theorem cell_below {w w' : World} {b o : Nat} {v : Value} (hb : Below w.heap.size w w') (hc : w.cell? ⟨b, o, none⟩ = some v) : w'.cell? ⟨b, o, none⟩ = some v := by
  rw [hb.cell (p := ⟨b, o, none⟩)]
  · exact hc
  · show b < w.heap.size
    rcases Nat.lt_or_ge b w.heap.size with h | h
    · exact h
    · have hc' := hc
      simp [World.cell?, Array.getElem?_eq_none h] at hc'
theorem row_below {w w' : World} {g : Nat} {o : Obj} (hb : Below w.heap.size w w') (h : w.heap[g]? = some o) : w'.heap[g]? = some o := (hb.block _ (lt_of_block h)).trans h

/-- Numbers that came in, or lie anywhere. -/
def IntsF (w : World) (a : Option Addr) (l : List Int) : Prop := ∀ (i : Nat) (z : Int), l[i]? = some z → ∃ B off, a = some ⟨B, off, none⟩ ∧ w.cell? ⟨B, off + i, none⟩ = some (.int .i64 z) ∧ -9223372036854775808 ≤ z ∧ z ≤ 9223372036854775807
theorem IntsF.nil (w : World) (a : Option Addr) : IntsF w a [] := fun i z h => by simp at h
theorem IntsF.below {w w' : World} {a : Option Addr} {l : List Int} (h : IntsF w a l) (hb : Below w.heap.size w w') : IntsF w' a l := fun i z hz => by
  obtain ⟨B, off, ha, hc, h1⟩ := h i z hz
  exact ⟨B, off, ha, cell_below hb hc, h1⟩
theorem IntsF.drewN {w : World} {a : Option Addr} {l : List Int} (h : IntsF w a l) (n : Nat) : IntsF (w.drewN n) a l := h
theorem IntsF.at {w : World} {a : Option Addr} {l : List Int} (h : IntsF w a l) {i : Nat} (hi : i < l.length) :
    ∃ z B off, l[i]? = some z ∧ a = some ⟨B, off, none⟩ ∧ (-9223372036854775808 ≤ z ∧ z ≤ 9223372036854775807) ∧ ∀ w', Below w.heap.size w w' → w'.cell? ⟨B, off + i, none⟩ = some (.int .i64 z) := by
  obtain ⟨B, off, ha, hc, h1⟩ := h i _ (List.getElem?_eq_getElem hi)
  exact ⟨l[i], B, off, List.getElem?_eq_getElem hi, ha, h1, fun w' hb => cell_below hb hc⟩
theorem IntsF.wide {w : World} {a : Option Addr} {l : List Int} (h : IntsF w a l) {z : Int} (hz : z ∈ l) : -9223372036854775808 ≤ z ∧ z ≤ 9223372036854775807 := by
  obtain ⟨i, hi⟩ := List.getElem?_of_mem hz
  obtain ⟨_, _, _, _, h1⟩ := h i z hi
  exact h1
/-- Lists of numbers that came in, or lie anywhere. -/
def RowsF (w : World) (a : Option Addr) (L : List (List Int)) : Prop := ∀ (i : Nat) (l : List Int), L[i]? = some l → ∃ B off a' c', a = some ⟨B, off, none⟩ ∧ w.cell? ⟨B, off + i, none⟩ = some (.slice a' l.length c') ∧ IntsF w a' l ∧ l.length ≤ c' ∧ l.length ≤ 9223372036854775807
theorem RowsF.below {w w' : World} {a : Option Addr} {L : List (List Int)} (h : RowsF w a L) (hb : Below w.heap.size w w') : RowsF w' a L := fun i l hl => by
  obtain ⟨B, off, a', c', ha, hc, h1, h2⟩ := h i l hl
  exact ⟨B, off, a', c', ha, cell_below hb hc, h1.below hb, h2⟩
theorem RowsF.at {w : World} {a : Option Addr} {L : List (List Int)} (h : RowsF w a L) {i : Nat} (hi : i < L.length) :
    ∃ B off a' c', a = some ⟨B, off, none⟩ ∧ IntsF w a' (nthL L i) ∧ (nthL L i).length ≤ c' ∧ (nthL L i).length ≤ 9223372036854775807 ∧ ∀ w', Below w.heap.size w w' → w'.cell? ⟨B, off + i, none⟩ = some (.slice a' (nthL L i).length c') := by
  obtain ⟨B, off, a', c', ha, hc, h1, h2, h3⟩ := h i _ (List.getElem?_eq_getElem hi)
  have e : nthL L i = L[i] := nthL_some (List.getElem?_eq_getElem hi)
  rw [e]
  exact ⟨B, off, a', c', ha, h1, h2, h3, fun w' hb => cell_below hb hc⟩

/-- A block of numbers of the machine. -/
def BlkI (w : World) (B : Nat) (l : List Int) : Prop := w.heap[B]? = some (.cells (l.map (Value.int .i64)).toArray 3 (0, 0))
theorem BlkI.below {w w' : World} {B : Nat} {l : List Int} (h : BlkI w B l) (hb : Below w.heap.size w w') : BlkI w' B l := row_below hb h
theorem BlkI.drewN {w : World} {B : Nat} {l : List Int} (h : BlkI w B l) (n : Nat) : BlkI (w.drewN n) B l := h
theorem BlkI.other {w w' : World} {B C : Nat} {l : List Int} (h : BlkI w B l) (hb : Only C w w') (hN : B ≠ C) : BlkI w' B l := (hb.block B hN).trans h
theorem BlkI.lt {w : World} {B : Nat} {l : List Int} (h : BlkI w B l) : B < w.heap.size := lt_of_block h
theorem BlkI.cell {w : World} {B : Nat} {l : List Int} (h : BlkI w B l) {i : Nat} {b : Int} (hb : l[i]? = some b) : w.cell? ⟨B, i, none⟩ = some (.int .i64 b) := by
  rw [cell_of_row _ _ _ _ _ _ h, List.getElem?_toArray, List.getElem?_map, hb]
  rfl
theorem BlkI.frozen {w : World} {B : Nat} {l : List Int} (h : BlkI w B l) (i : Nat) : w.frozen? ⟨B, i, none⟩ = false := frozen_of_row _ _ i _ _ h
theorem BlkI.setCell {w : World} {B : Nat} {l : List Int} (h : BlkI w B l) (k : Nat) (b : Int) : BlkI (w.setCell ⟨B, k, none⟩ (.int .i64 b)) B (l.set k b) := by
  have h' : w.heap[B]? = some (.cells (l.map (Value.int .i64)).toArray 3 (0, 0)) := h
  simp [BlkI, World.setCell, Array.getElem?_modify, h', List.map_set]
/-- What lies in a block that the call made reads as a list. -/
theorem BlkI.ints {w : World} {B : Nat} {l : List Int} (h : BlkI w B l) (hr : ∀ z ∈ l, -9223372036854775808 ≤ z ∧ z ≤ 9223372036854775807) : IntsF w (some ⟨B, 0, none⟩) l := fun i z hz =>
  ⟨B, 0, rfl, by rw [Nat.zero_add]; exact h.cell hz, hr z (List.mem_of_getElem? hz)⟩
theorem madeCells_one (z : Value) (n : Nat) : madeCells #[z] n = (List.replicate n z).toArray := by
  apply Array.ext'
  rw [toList_madeCells_one]
theorem info_int9 : (Try.prog.info? 3).map (fun i => (i.zero, i.size, i.bytes)) = some (some (.int .i64 0), 1, 8) := by kernel_rfl
theorem wpList_make_ints {P : Program} {w : World} {ops : Array Oper} {rest : List Oper} {o : Oper} {a : Act} {Q : Exit → Act → World → Prop}
    (hg : o.guard = none) (l c : Operand) (t : TypeId) (hop : o.op = Op.makeSlice t l c) (h1 : P.underlying t = some (.slice 3))
    (h2 : (P.info? 3).map (fun i => (i.zero, i.size, i.bytes)) = some (some (.int .i64 0), 1, 8)) (n : Nat) (hl : a.eval l = .int .i64 n) (hc : a.eval c = .int .i64 n) (hn : n ≤ 1073741824)
    (hK : ∀ w', BlkI w' w.heap.size (List.replicate n 0) → Below w.heap.size w w' → Hid (w'.heap.size = w.heap.size + 1) → wpList P ops Q rest (a.put o.dst (.slice (some ⟨w.heap.size, 0, none⟩) n n)) w') :
    wpList P ops Q (o :: rest) a w := by
  obtain ⟨i, hi, hz, hs, hb⟩ := info_parts h2
  refine wpList_plain hg fun K hK' => ?_
  have hr := run_make (P := P) w t 3 i _ h1 hi hz .i64 .i64 n n (by omega) (Int.le_refl _) (by rw [hb]; omega) (by omega)
  simp only [Int.toNat_natCast, hs, Value.cells, madeCells_one, Nat.mul_one] at hr
  unfold Oper.wp
  simp [execOp, hop, hl, hc, hr, Result.andThen]
  refine hK' _ _ (hK _ ?_ ((Below.refl _ _).alloc (Nat.le_refl _) _) (Lib.hid (by simp)))
  show (w.heap.push _)[w.heap.size]? = _
  simp

/-- A place in a list, or none. -/
def posQ (l : List Int) (x : Int) : Int := if x ∈ l then (l.idxOf x : Int) else -1
theorem pos_yes {l : List Int} {i : Nat} {x : Int} (h : l[i]? = some x) (hno : ∀ (j : Nat) (z : Int), j < i → l[j]? = some z → z ≠ x) : l.idxOf x = i ∧ x ∈ l := by
  have hm := List.mem_of_getElem? h
  refine ⟨?_, hm⟩
  have h1 := idxOf_mem hm
  have h2 := List.idxOf_lt_length_of_mem hm
  rcases Nat.lt_trichotomy (l.idxOf x) i with h3 | h3 | h3
  · exact absurd rfl (hno _ _ h3 h1)
  · exact h3
  · exfalso
    have := List.not_of_lt_findIdx (p := (· == x)) (xs := l) (i := i) h3
    obtain ⟨hi, he⟩ := List.getElem?_eq_some_iff.1 h
    simp [he] at this
theorem pos_no {l : List Int} {x : Int} (hno : ∀ (j : Nat) (z : Int), l[j]? = some z → z ≠ x) : x ∉ l := fun hm => by
  obtain ⟨j, hj⟩ := List.getElem?_of_mem hm
  exact hno j x hj rfl

set_option maxRecDepth 8000 in
set_option maxHeartbeats 2000000 in
theorem index_w {w : World} {a : Option Addr} {m c : Nat} {l : List Int} {v : Int} (h : IntsF w a l) (hm : m = l.length) (hm9 : m ≤ 9223372036854775807) :
    Calls Try.prog 58 #[.slice a m c, .int .i64 v] w fun e w' => e = .returned (.int .i64 (posQ l v)) ∧ w = w' := by
  have HI := Lib.hid h
  have HM := Lib.hid hm
  obtain ⟨r, hr⟩ : ∃ r, r = posQ l v := ⟨_, rfl⟩
  have HR := Lib.hid hr
  rw [← hr]
  clear h hm hr
  go_enter Try.func58, Try.ntmps58
  go_wp2_with fail
  go_loopw [8] (fun iv wr => ∃ i : Nat, i ≤ m ∧ iv = .int .i64 i ∧ wr = w ∧ Hid (∀ (j : Nat) (z : Int), j < i → l[j]? = some z → z ≠ v)) (fun iv _ => m - (intOf iv).toNat)
  case atStart => exact ⟨0, Nat.zero_le _, rfl, rfl, Lib.hid (fun j z hj => absurd hj (Nat.not_lt_zero _))⟩
  case round =>
    obtain ⟨i, hi, rfl, rfl, hno⟩ := hrel
    by_cases hin : i < m
    · have t0 : decide ((i : Int) < (m : Int)) = true := by simp; omega
      obtain ⟨z, B, off, hz, ha, hzb, hc⟩ := HI.out.at (i := i) (by have := HM.out; omega)
      subst ha
      have e1 := hc _ (Below.refl _ _)
      have HLZ := Lib.hid hz
      clear hc hz
      by_cases hzv : z = v
      · subst hzv
        have u1 : (z == z) = true := by simp
        have HE : Hid (Value.int IntKind.i64 (i : Int) = Value.int IntKind.i64 r) := Lib.hid (by
          obtain ⟨h1, h2⟩ := pos_yes HLZ.out hno.out
          rw [HR.out]; unfold posQ; rw [if_pos h2, h1])
        go_wp2_with fail
        go_ret
        exact ⟨by rw [← HE.out]; rfl, rfl⟩
      · have t1 : (z == v) = false := by simpa using hzv
        have t2 : decide (z = v) = false := by simpa using hzv
        have t3 : (v == z) = false := by simpa using fun e : v = z => hzv e.symm
        have t4 : decide (v = z) = false := by simpa using fun e : v = z => hzv e.symm
        have HN9 : Hid (∀ (j : Nat) (z : Int), j < i + 1 → l[j]? = some z → z ≠ v) := Lib.hid (fun j y hj hy => by
          by_cases hji : j = i
          · subst hji
            rw [HLZ.out] at hy
            cases hy
            exact hzv
          · exact hno.out j y (by omega) hy)
        go_wp2_with fail
        go_roundw
        case rel => exact ⟨i + 1, by omega, by go_num, by first | rfl | trivial, HN9⟩
        case measure => simp [intOf]; omega
    · have t0 : decide ((i : Int) < (m : Int)) = false := by simp; omega
      have HE : Hid (Value.int IntKind.i64 (-1) = Value.int IntKind.i64 r) := Lib.hid (by
        rw [HR.out]; unfold posQ
        rw [if_neg (pos_no fun j z hj => hno.out j z (by have := (List.getElem?_eq_some_iff.1 hj).1; have := HM.out; omega) hj)])
      go_wp2_with fail
      go_ret
      exact ⟨by rw [← HE.out]; rfl, rfl⟩
set_option maxRecDepth 8000 in
theorem contains_w {w : World} {a : Option Addr} {m c : Nat} {l : List Int} {v : Int} (h : IntsF w a l) (hm : m = l.length) (hm9 : m ≤ 9223372036854775807) :
    Calls Try.prog 56 #[.slice a m c, .int .i64 v] w fun e w' => e = .returned (.bool (l.contains v)) ∧ w = w' := by
  have KF := Lib.hid (index_w (c := c) (v := v) h hm hm9)
  obtain ⟨r, hr⟩ : ∃ r, r = posQ l v := ⟨_, rfl⟩
  have HR : Hid (l.contains v = decide (r ≥ 0)) := Lib.hid (by
    rw [hr]; unfold posQ
    by_cases hm : v ∈ l
    · rw [if_pos hm, List.contains_iff_mem.2 hm]; simp
    · rw [if_neg hm]
      have : l.contains v = false := by simpa using hm
      rw [this]; rfl)
  rw [← hr] at KF
  clear h hm hr
  go_enter Try.func56, Try.ntmps56
  go_wp2_with fail
  refine KF.out.mono ?_
  rintro en2 w2 ⟨rfl, rfl⟩
  go_wp2_with fail
  go_ret
  exact ⟨by rw [HR.out]; rfl, rfl⟩
set_option maxRecDepth 8000 in
set_option maxHeartbeats 2000000 in
theorem score_w {w : World} {a : Option Addr} {m c : Nat} {l : List Int} {v : Int} (h : IntsF w a l) (hm : m = l.length) (hm9 : m ≤ 9223372036854775806) :
    Calls Try.prog 17 #[.slice a m c, .int .i64 v] w fun e w' => e = .returned (.int .i64 (scoreQ l v : Nat)) ∧ w = w' := by
  have HI := Lib.hid h
  have HM := Lib.hid hm
  obtain ⟨r, hr⟩ : ∃ r, r = scoreQ l v := ⟨_, rfl⟩
  have HR := Lib.hid hr
  rw [← hr]
  clear h hm hr
  go_enter Try.func17, Try.ntmps17
  go_wp2_with fail
  go_loopw [5] (fun iv wr => ∃ i : Nat, i ≤ m ∧ iv = .int .i64 i ∧ wr = w ∧ Hid (∀ (j : Nat) (z : Int), j < i → l[j]? = some z → z ≠ v)) (fun iv _ => m - (intOf iv).toNat)
  case atStart => exact ⟨0, Nat.zero_le _, rfl, rfl, Lib.hid (fun j z hj => absurd hj (Nat.not_lt_zero _))⟩
  case round =>
    obtain ⟨i, hi, rfl, rfl, hno⟩ := hrel
    by_cases hin : i < m
    · have t0 : decide ((i : Int) < (m : Int)) = true := by simp; omega
      obtain ⟨z, B, off, hz, ha, hzb, hc⟩ := HI.out.at (i := i) (by have := HM.out; omega)
      subst ha
      have e1 := hc _ (Below.refl _ _)
      have HLZ := Lib.hid hz
      clear hc hz
      by_cases hzv : z = v
      · subst hzv
        have u1 : (z == z) = true := by simp
        have HE : Hid (i = r) := Lib.hid (by
          obtain ⟨h1, h2⟩ := pos_yes HLZ.out hno.out
          rw [HR.out, (score_mem h2).1, h1])
        go_wp2_with fail
        go_ret
        exact ⟨by rw [← HE.out]; rfl, rfl⟩
      · have t1 : (z == v) = false := by simpa using hzv
        have t2 : decide (z = v) = false := by simpa using hzv
        have HN9 : Hid (∀ (j : Nat) (z : Int), j < i + 1 → l[j]? = some z → z ≠ v) := Lib.hid (fun j y hj hy => by
          by_cases hji : j = i
          · subst hji
            rw [HLZ.out] at hy
            cases hy
            exact hzv
          · exact hno.out j y (by omega) hy)
        go_wp2_with fail
        go_roundw
        case rel => exact ⟨i + 1, by omega, by go_num, by first | rfl | trivial, HN9⟩
        case measure => simp [intOf]; omega
    · have t0 : decide ((i : Int) < (m : Int)) = false := by simp; omega
      have HN : Hid (v ∉ l) := Lib.hid (pos_no fun j z hj => hno.out j z (by have := (List.getElem?_eq_some_iff.1 hj).1; have := HM.out; omega) hj)
      by_cases hv : v = -1
      · subst hv
        have HE : Hid (m = r) := Lib.hid (by rw [HR.out, score_none HN.out, HM.out])
        go_wp2_with fail
        go_ret
        exact ⟨by rw [← HE.out]; rfl, rfl⟩
      · have t1 : (v == -1) = false := by simpa using hv
        have t2 : decide (v = -1) = false := by simpa using hv
        have HE : Hid (m + 1 = r) := Lib.hid (by rw [HR.out]; unfold scoreQ; rw [if_neg HN.out, if_neg hv, HM.out])
        go_wp2_with fail
        go_ret
        exact ⟨by rw [← HE.out]; go_num, rfl⟩
set_option maxRecDepth 8000 in
theorem rahead_w {w : World} {a : Option Addr} {m c : Nat} {l : List Int} {x y : Int} (h : IntsF w a l) (hm : m = l.length) (hm9 : m ≤ 9223372036854775806) :
    Calls Try.prog 16 #[.slice a m c, .int .i64 x, .int .i64 y] w fun e w' => e = .returned (.bool (decide (scoreQ l x < scoreQ l y))) ∧ w = w' := by
  have KX := Lib.hid (score_w (c := c) (v := x) h hm hm9)
  have KY := Lib.hid (score_w (c := c) (v := y) h hm hm9)
  obtain ⟨r, hr⟩ : ∃ r, r = scoreQ l x := ⟨_, rfl⟩
  obtain ⟨s, hs⟩ : ∃ s, s = scoreQ l y := ⟨_, rfl⟩
  rw [← hr] at KX ⊢
  rw [← hs] at KY ⊢
  clear h hm hr hs
  go_enter Try.func16, Try.ntmps16
  go_wp2_with fail
  refine KX.out.mono ?_
  rintro en2 w2 ⟨rfl, rfl⟩
  go_wp2_with fail
  refine KY.out.mono ?_
  rintro en2 w2 ⟨rfl, rfl⟩
  go_wp2_with fail
  go_ret
  exact ⟨by simp, rfl⟩
set_option maxRecDepth 8000 in
theorem wants_w {w : World} {a : Option Addr} {m c : Nat} {l : List Int} {x : Int} (h : IntsF w a l) (hm : m = l.length) (hm9 : m ≤ 9223372036854775806) :
    Calls Try.prog 29 #[.slice a m c, .int .i64 x] w fun e w' => e = .returned (.bool (decide (scoreQ l x < l.length))) ∧ w = w' := by
  have KX := Lib.hid (score_w (c := c) (v := x) h hm hm9)
  obtain ⟨r, hr⟩ : ∃ r, r = scoreQ l x := ⟨_, rfl⟩
  rw [← hr] at KX ⊢
  rw [← hm]
  clear h hm hr
  go_enter Try.func29, Try.ntmps29
  go_wp2_with fail
  refine KX.out.mono ?_
  rintro en2 w2 ⟨rfl, rfl⟩
  go_wp2_with fail
  go_ret
  exact ⟨by simp, rfl⟩
set_option maxRecDepth 8000 in
set_option maxHeartbeats 2000000 in
theorem place_w {w : World} {a : Option Addr} {m c : Nat} {l : List Int} {v : Int} (h : IntsF w a l) (hm : m = l.length) (hm9 : m ≤ 9223372036854775806) (hno : (-1 : Int) ∉ l) :
    Calls Try.prog 64 #[.slice a m c, .int .i64 v] w fun e w' => e = .returned (.int .i64 (scoreQ l v : Nat)) ∧ w = w' := by
  have KX := Lib.hid (index_w (c := c) (v := v) h hm (by omega))
  obtain ⟨r, hr⟩ : ∃ r, r = scoreQ l v := ⟨_, rfl⟩
  obtain ⟨p, hp⟩ : ∃ p, p = posQ l v := ⟨_, rfl⟩
  have HP := Lib.hid hp
  have HR := Lib.hid hr
  have HM := Lib.hid hm
  have HN := Lib.hid hno
  rw [← hr]
  rw [← hp] at KX
  clear h hm hr hp hno
  by_cases hv : v = -1
  · subst hv
    have HE : Hid (m = r) := Lib.hid (by rw [HR.out, score_none HN.out, HM.out])
    go_enter Try.func64, Try.ntmps64
    go_wp2_with fail
    go_ret
    exact ⟨by rw [← HE.out]; rfl, rfl⟩
  have t1 : (v == -1) = false := by simpa using hv
  have t2 : decide (v = -1) = false := by simpa using hv
  go_enter Try.func64, Try.ntmps64
  go_wp2_with fail
  refine KX.out.mono ?_
  rintro en2 w2 ⟨rfl, rfl⟩
  by_cases hin : v ∈ l
  · have hp0 : 0 ≤ p := by rw [HP.out]; unfold posQ; rw [if_pos hin]; omega
    have t3 : decide (p ≥ 0) = true := by simpa using hp0
    have t4 : decide (0 ≤ p) = true := by simpa using hp0
    have HE : Hid (p = (r : Int)) := Lib.hid (by rw [HP.out, HR.out]; unfold posQ; rw [if_pos hin, (score_mem hin).1])
    clear hp0
    go_wp2_with fail
    go_ret
    exact ⟨by rw [← HE.out]; rfl, rfl⟩
  · have hp0 : p = -1 := by rw [HP.out]; unfold posQ; rw [if_neg hin]
    have t3 : decide (p ≥ 0) = false := by rw [hp0]; rfl
    have t4 : decide (0 ≤ p) = false := by rw [hp0]; rfl
    have HE : Hid (m + 1 = r) := Lib.hid (by rw [HR.out]; unfold scoreQ; rw [if_neg hin, if_neg hv, HM.out])
    clear hp0
    go_wp2_with fail
    go_ret
    exact ⟨by rw [← HE.out]; go_num, rfl⟩
set_option maxRecDepth 8000 in
theorem ahead_w {w : World} {a : Option Addr} {m c : Nat} {l : List Int} {x y : Int} (h : IntsF w a l) (hm : m = l.length) (hm9 : m ≤ 9223372036854775806) (hno : (-1 : Int) ∉ l) :
    Calls Try.prog 52 #[.slice a m c, .int .i64 x, .int .i64 y] w fun e w' => e = .returned (.bool (decide (scoreQ l x < scoreQ l y))) ∧ w = w' := by
  have KX := Lib.hid (place_w (c := c) (v := x) h hm hm9 hno)
  have KY := Lib.hid (place_w (c := c) (v := y) h hm hm9 hno)
  obtain ⟨r, hr⟩ : ∃ r, r = scoreQ l x := ⟨_, rfl⟩
  obtain ⟨s, hs⟩ : ∃ s, s = scoreQ l y := ⟨_, rfl⟩
  rw [← hr] at KX ⊢
  rw [← hs] at KY ⊢
  clear h hm hr hs hno
  go_enter Try.func52, Try.ntmps52
  go_wp2_with fail
  refine KX.out.mono ?_
  rintro en2 w2 ⟨rfl, rfl⟩
  go_wp2_with fail
  refine KY.out.mono ?_
  rintro en2 w2 ⟨rfl, rfl⟩
  go_wp2_with fail
  go_ret
  exact ⟨by simp, rfl⟩
end Go.Proofs.Ytomnnickiljkgaa
