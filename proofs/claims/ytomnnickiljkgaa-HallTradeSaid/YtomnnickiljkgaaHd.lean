/- Are lists right? Lists of equal numbers. -/
import Derived.Test.YtomnnickiljkgaaHc
namespace Go.Proofs.Ytomnnickiljkgaa
open Go.RowKit
attribute [local go_sem ↓] Go.wp_at_zero Go.wp_at_succ

/-- Is number i of a list a new one of n things? -/
def okAt (n : Int) (l : List Int) (i : Nat) : Bool := match l[i]? with
  | some v => decide (0 ≤ v ∧ v < n) && !(l.take i).contains v
  | none => true
theorem okAt_of {n : Int} {l : List Int} {i : Nat} {v : Int} (hv : l[i]? = some v) : okAt n l i = (decide (0 ≤ v ∧ v < n) && !(l.take i).contains v) := by
  unfold okAt
  rw [hv]
theorem okAt_low {n v : Int} {l : List Int} {i : Nat} (hv : l[i]? = some v) (h : ¬ (0 ≤ v ∧ v < n)) : okAt n l i = false := by
  rw [okAt_of hv]
  simp [h]
theorem mem_take_lt {l : List Int} {i j : Nat} {v : Int} (hj : j < i) (h : l[j]? = some v) : v ∈ l.take i := by
  have h9 : (l.take i)[j]? = some v := by rw [List.getElem?_take, if_pos hj]; exact h
  exact List.mem_of_getElem? h9
theorem listed_yes {n : Nat} {l : List Int} (h : ∀ i, i < l.length → okAt n l i = true) : listedQ n l = true := by
  rw [listed_iff]
  refine ⟨?_, fun x hx => ?_⟩
  · unfold List.Nodup
    rw [List.pairwise_iff_getElem]
    intro i j hi hj hij he
    have h1 := h j hj
    rw [okAt_of (List.getElem?_eq_getElem hj)] at h1
    simp only [Bool.and_eq_true, Bool.not_eq_true', decide_eq_true_eq] at h1
    have h2 : l[j] ∈ l.take j := mem_take_lt hij (by rw [List.getElem?_eq_getElem hi, he])
    have h3 := List.contains_iff_mem.2 h2
    rw [h1.2] at h3
    cases h3
  · obtain ⟨i, hi⟩ := List.getElem?_of_mem hx
    have h1 := h i (List.getElem?_eq_some_iff.1 hi).1
    rw [okAt_of hi] at h1
    simp only [Bool.and_eq_true, decide_eq_true_eq] at h1
    exact h1.1
theorem listed_no {n : Nat} {l : List Int} {i : Nat} (hi : i < l.length) (h : okAt n l i = false) : listedQ n l = false := by
  cases hh : listedQ n l with
  | false => rfl
  | true =>
    exfalso
    obtain ⟨h1, h2⟩ := listed_iff.1 hh
    have hv : l[i]? = some l[i] := List.getElem?_eq_getElem hi
    rw [okAt_of hv] at h
    have h3 := h2 _ (List.getElem_mem hi)
    have h4 : (l.take i).contains l[i] = true := by
      cases h5 : (l.take i).contains l[i] with
      | true => rfl
      | false => rw [h5] at h; simp at h; omega
    obtain ⟨j, hj⟩ := List.getElem?_of_mem (List.contains_iff_mem.1 h4)
    rw [List.getElem?_take] at hj
    split at hj
    · rename_i hlt
      obtain ⟨hj1, hj2⟩ := List.getElem?_eq_some_iff.1 hj
      unfold List.Nodup at h1
      rw [List.pairwise_iff_getElem] at h1
      exact h1 j i hj1 hi hlt hj2
    · cases hj
theorem take_has {l : List Int} {i : Nat} {v : Int} (hv : l[i]? = some v) : l.take (i + 1) = l.take i ++ [v] := by
  obtain ⟨hi, h9⟩ := List.getElem?_eq_some_iff.1 hv
  rw [List.take_succ_eq_append_getElem hi, h9]
theorem score_first {l : List Int} {i : Nat} {v : Int} (hv : l[i]? = some v) : decide (scoreQ l v = i) = !(l.take i).contains v := by
  have hm := List.mem_of_getElem? hv
  rw [(score_mem hm).1]
  cases hc : (l.take i).contains v with
  | true =>
    obtain ⟨j, hj⟩ := List.getElem?_of_mem (List.contains_iff_mem.1 hc)
    rw [List.getElem?_take] at hj
    split at hj
    · rename_i hlt
      have h1 : l.idxOf v ≤ j := by
        rcases Nat.lt_or_ge j (l.idxOf v) with h2 | h2
        · exfalso
          have := List.not_of_lt_findIdx (p := (· == v)) (xs := l) (i := j) h2
          obtain ⟨hi, he⟩ := List.getElem?_eq_some_iff.1 hj
          simp [he] at this
        · exact h2
      simp; omega
    · cases hj
  | false =>
    have h1 := (pos_yes hv (fun j z hj hz e => by
      subst e
      have := List.contains_iff_mem.2 (mem_take_lt hj hz)
      rw [hc] at this; cases this)).1
    simp [h1]
/-- A block of truth values. -/
def BlkT (w : World) (B : Nat) (t : TypeId) (l : List Bool) : Prop := w.heap[B]? = some (.cells (l.map Value.bool).toArray t (0, 0))
theorem BlkT.below {w w' : World} {B : Nat} {t : TypeId} {l : List Bool} (h : BlkT w B t l) (hb : Below w.heap.size w w') : BlkT w' B t l := row_below hb h
theorem BlkT.other {w w' : World} {B C : Nat} {t : TypeId} {l : List Bool} (h : BlkT w B t l) (hb : Only C w w') (hN : B ≠ C) : BlkT w' B t l := (hb.block B hN).trans h
theorem BlkT.lt {w : World} {B : Nat} {t : TypeId} {l : List Bool} (h : BlkT w B t l) : B < w.heap.size := lt_of_block h
theorem BlkT.cell {w : World} {B : Nat} {t : TypeId} {l : List Bool} (h : BlkT w B t l) {i : Nat} {b : Bool} (hb : l[i]? = some b) : w.cell? ⟨B, i, none⟩ = some (.bool b) := by
  rw [cell_of_row _ _ _ _ _ _ h, List.getElem?_toArray, List.getElem?_map, hb]
  rfl
theorem BlkT.frozen {w : World} {B : Nat} {t : TypeId} {l : List Bool} (h : BlkT w B t l) (i : Nat) : w.frozen? ⟨B, i, none⟩ = false := frozen_of_row _ _ i _ _ h
theorem BlkT.setCell {w : World} {B : Nat} {t : TypeId} {l : List Bool} (h : BlkT w B t l) (k : Nat) (b : Bool) : BlkT (w.setCell ⟨B, k, none⟩ (.bool b)) B t (l.set k b) := by
  have h' : w.heap[B]? = some (.cells (l.map Value.bool).toArray t (0, 0)) := h
  simp [BlkT, World.setCell, Array.getElem?_modify, h', List.map_set]
theorem info_bool9 : (Try.prog.info? 4).map (fun i => (i.zero, i.size, i.bytes)) = some (some (Value.bool false), 1, 1) := by kernel_rfl
theorem wpList_make_bools {P : Program} {w : World} {ops : Array Oper} {rest : List Oper} {o : Oper} {a : Act} {Q : Exit → Act → World → Prop}
    (hg : o.guard = none) (l c : Operand) (t : TypeId) (hop : o.op = Op.makeSlice t l c) (h1 : P.underlying t = some (.slice 4))
    (h2 : (P.info? 4).map (fun i => (i.zero, i.size, i.bytes)) = some (some (.bool false), 1, 1)) (n : Nat) (hl : a.eval l = .int .i64 n) (hc : a.eval c = .int .i64 n) (hn : n ≤ 1073741824)
    (hK : ∀ w', BlkT w' w.heap.size 4 (List.replicate n false) → Below w.heap.size w w' → Hid (w'.heap.size = w.heap.size + 1) → wpList P ops Q rest (a.put o.dst (.slice (some ⟨w.heap.size, 0, none⟩) n n)) w') :
    wpList P ops Q (o :: rest) a w := by
  obtain ⟨i, hi, hz, hs, hb⟩ := info_parts h2
  refine wpList_plain hg fun K hK' => ?_
  have hr := run_make (P := P) w t 4 i _ h1 hi hz .i64 .i64 n n (by omega) (Int.le_refl _) (by rw [hb]; omega) (by omega)
  simp only [Int.toNat_natCast, hs, Value.cells, madeCells_one, Nat.mul_one] at hr
  unfold Oper.wp
  simp [execOp, hop, hl, hc, hr, Result.andThen]
  refine hK' _ _ (hK _ ?_ ((Below.refl _ _).alloc (Nat.le_refl _) _) (Lib.hid (by simp)))
  show (w.heap.push _)[w.heap.size]? = _
  simp
/-- Which of n places stand in a list. -/
def seenL (n : Nat) (l : List Int) : List Bool := (List.range n).map (fun (j : Nat) => l.contains (j : Int))
theorem seenL_at {n j : Nat} {l : List Int} (hj : j < n) : (seenL n l)[j]? = some (l.contains (j : Int)) := by
  unfold seenL
  rw [List.getElem?_map, List.getElem?_range hj]
  rfl
theorem seenL_set {n j : Nat} {l : List Int} : (seenL n l).set j true = seenL n (l ++ [(j : Int)]) := by
  apply List.ext_getElem?
  intro i
  by_cases hi : i < n
  · by_cases hij : i = j
    · subst hij
      rw [List.getElem?_set_self (by simp [seenL]; exact hi), seenL_at hi]
      simp
    · rw [List.getElem?_set_ne (fun e => hij e.symm), seenL_at hi, seenL_at hi]
      have h9 : ¬ ((i : Int) = (j : Int)) := by omega
      simp [h9]
  · rw [List.getElem?_eq_none (by simp [seenL]; omega), List.getElem?_eq_none (by simp [seenL]; omega)]

set_option maxRecDepth 8000 in
set_option maxHeartbeats 4000000 in
theorem right_w {w : World} {n m c : Nat} {a : Option Addr} {l : List Int} (h : IntsF w a l) (hm : m = l.length) (hn : n ≤ 8) (hm9 : m ≤ 9223372036854775806) :
    Calls Try.prog 48 #[.slice a m c, .int .i64 (n : Nat)] w fun e w' => e = .returned (.bool (listedQ n l)) ∧ Below w.heap.size w w' := by
  have HI := Lib.hid h
  have HM := Lib.hid hm
  obtain ⟨w1, hw1⟩ : ∃ w1, w1 = w.alloc (Obj.cells #[Value.bool false, Value.bool false, Value.bool false, Value.bool false, Value.bool false, Value.bool false, Value.bool false, Value.bool false] 74) := ⟨_, rfl⟩
  have HB1 : Hid (Below w.heap.size w w1) := Lib.hid (by rw [hw1]; exact (Below.refl _ _).alloc (Nat.le_refl _) _)
  have HX1 : Hid (BlkT w1 w.heap.size 74 (seenL 8 (l.take 0))) := Lib.hid (by rw [hw1]; exact heap_alloc_new w _)
  have HW1 := Lib.hid hw1.symm
  clear h hm hw1
  obtain ⟨okb, hokb⟩ : ∃ b, b = listedQ n l := ⟨_, rfl⟩
  have HOK := Lib.hid hokb
  rw [← hokb]
  clear hokb
  go_enter Try.func48, Try.ntmps48
  go_wp2_with fail
  rw [HW1.out]
  go_loopw [10] (fun iv wr => ∃ i : Nat, i ≤ m ∧ iv = .int .i64 i ∧ Hid (BlkT wr w.heap.size 74 (seenL 8 (l.take i))) ∧ Hid (Below w.heap.size w wr) ∧ Hid (∀ j, j < i → okAt (n : Int) l j = true)) (fun iv _ => m - (intOf iv).toNat)
  case atStart => exact ⟨0, Nat.zero_le _, rfl, HX1, HB1, Lib.hid (fun j hj => absurd hj (Nat.not_lt_zero _))⟩
  case round =>
    obtain ⟨i, hi, rfl, hT, hZ, hok⟩ := hrel
    obtain ⟨wo, rfl⟩ : ∃ wo : World, wo = wr := ⟨_, rfl⟩
    by_cases hin : i < m
    · have t0 : decide ((i : Int) < (m : Int)) = true := by simp; omega
      obtain ⟨z, B, off, hz, ha, hzb, hc⟩ := HI.out.at (i := i) (by have := HM.out; omega)
      subst ha
      have e1 := hc wo hZ.out
      have HLZ := Lib.hid hz
      clear hc hz
      by_cases hz0 : z < 0
      · have t1 : decide (z < 0) = true := by simpa using hz0
        have HE : Hid (false = okb) := Lib.hid (by rw [HOK.out]; exact (listed_no (by have := HM.out; omega) (okAt_low HLZ.out (by omega))).symm)
        go_wp2_with fail
        go_ret
        exact ⟨by rw [← HE.out]; rfl, hZ.out⟩
      · have t1 : decide (z < 0) = false := by simpa using hz0
        obtain ⟨v, rfl⟩ : ∃ v : Nat, z = (v : Int) := ⟨z.toNat, by omega⟩
        by_cases hvn : v < n
        · have t2 : decide ((n : Int) ≤ (v : Int)) = false := by simp; omega
          have t3 : decide ((v : Int) ≥ (n : Int)) = false := by simp; omega
          obtain ⟨sb, hsb⟩ : ∃ b, b = (l.take i).contains (v : Int) := ⟨_, rfl⟩
          have e2 : wo.cell? ⟨w.heap.size, v, none⟩ = some (.bool sb) := hT.out.cell (by rw [hsb]; exact seenL_at (by omega))
          have hv8 : v < 8 := by omega
          have HSB := Lib.hid hsb
          have HOA : Hid (okAt (n : Int) l i = !sb) := Lib.hid (by
            rw [okAt_of HLZ.out, hsb]
            have h9 : decide (0 ≤ (v : Int) ∧ (v : Int) < (n : Int)) = true := by simp; omega
            rw [h9, Bool.true_and])
          clear hsb
          cases sb with
          | true =>
            have HE : Hid (false = okb) := Lib.hid (by rw [HOK.out]; exact (listed_no (by have := HM.out; omega) HOA.out).symm)
            go_wp2_with fail
            go_ret
            exact ⟨by rw [← HE.out]; rfl, hZ.out⟩
          | false =>
            have z0 := hT.out.frozen v
            have HT9 : Hid (BlkT (wo.setCell ⟨w.heap.size, v, none⟩ (.bool true)) w.heap.size 74 (seenL 8 (l.take (i + 1)))) := Lib.hid (by rw [take_has HLZ.out, ← seenL_set]; exact hT.out.setCell v true)
            have HZ9 : Hid (Below w.heap.size w (wo.setCell ⟨w.heap.size, v, none⟩ (.bool true))) := Lib.hid (below_only hZ.out ((Only.refl _ wo).setCell v _) (Nat.le_refl _))
            have HOK9 : Hid (∀ j, j < i + 1 → okAt (n : Int) l j = true) := Lib.hid (fun j hj => by
              by_cases hji : j = i
              · rw [hji]; exact HOA.out
              · exact hok.out j (by omega))
            go_wp2_with fail
            go_roundw
            case rel => exact ⟨i + 1, by omega, by go_num, HT9, HZ9, HOK9⟩
            case measure => simp [intOf]; omega
        · have t2 : decide ((n : Int) ≤ (v : Int)) = true := by simp; omega
          have t3 : decide ((v : Int) ≥ (n : Int)) = true := by simp; omega
          have HE : Hid (false = okb) := Lib.hid (by rw [HOK.out]; exact (listed_no (by have := HM.out; omega) (okAt_low HLZ.out (by omega))).symm)
          go_wp2_with fail
          go_ret
          exact ⟨by rw [← HE.out]; rfl, hZ.out⟩
    · have t0 : decide ((i : Int) < (m : Int)) = false := by simp; omega
      have HE : Hid (true = okb) := Lib.hid (by rw [HOK.out]; exact (listed_yes (fun j hj => hok.out j (by have := HM.out; omega))).symm)
      go_wp2_with fail
      go_ret
      exact ⟨by rw [← HE.out]; rfl, hZ.out⟩
set_option maxRecDepth 8000 in
theorem total_w {w : World} {n m c : Nat} {a : Option Addr} {l : List Int} (h : IntsF w a l) (hm : m = l.length) (hn : n ≤ 8) (hm9 : m ≤ 9223372036854775806) :
    Calls Try.prog 43 #[.slice a m c, .int .i64 (n : Nat)] w fun e w' => e = .returned (.bool (decide (l.length = n) && listedQ n l)) ∧ Below w.heap.size w w' := by
  have KR := Lib.hid (right_w (c := c) h hm hn hm9)
  rw [← hm]
  obtain ⟨lb, hlb⟩ : ∃ lb, lb = listedQ n l := ⟨_, rfl⟩
  rw [← hlb] at KR ⊢
  clear h hm hlb
  by_cases hmn : m = n
  · subst hmn
    go_enter Try.func43, Try.ntmps43
    go_wp2_with fail
    refine KR.out.mono ?_
    rintro en2 w2 ⟨rfl, hb⟩
    go_wp2_with fail
    go_ret
    exact ⟨by simp, hb⟩
  · have t1 : ((m : Int) == (n : Int)) = false := by simp; omega
    have t2 : decide (m = n) = false := by simpa using hmn
    go_enter Try.func43, Try.ntmps43
    go_wp2_with fail
    go_ret
    exact ⟨by simp [t2], Below.refl _ _⟩
set_option maxRecDepth 8000 in
set_option maxHeartbeats 4000000 in
theorem listed_w {w : World} {m c : Nat} {n : Nat} {a : Option Addr} {l : List Int} (h : IntsF w a l) (hm : m = l.length) (hm9 : m ≤ 9223372036854775806) :
    Calls Try.prog 39 #[.slice a m c, .int .i64 (n : Nat)] w fun e w' => e = .returned (.bool (listedQ n l)) ∧ w = w' := by
  have HI := Lib.hid h
  have HM := Lib.hid hm
  have KS := Lib.hid (fun v => score_w (c := c) (v := v) h hm hm9)
  clear h hm
  obtain ⟨okb, hokb⟩ : ∃ b, b = listedQ n l := ⟨_, rfl⟩
  have HOK := Lib.hid hokb
  rw [← hokb]
  clear hokb
  go_enter Try.func39, Try.ntmps39
  go_wp2_with fail
  go_loopw [5] (fun iv wr => ∃ i : Nat, i ≤ m ∧ iv = .int .i64 i ∧ wr = w ∧ Hid (∀ j, j < i → okAt (n : Int) l j = true)) (fun iv _ => m - (intOf iv).toNat)
  case atStart => exact ⟨0, Nat.zero_le _, rfl, rfl, Lib.hid (fun j hj => absurd hj (Nat.not_lt_zero _))⟩
  case round =>
    obtain ⟨i, hi, rfl, rfl, hok⟩ := hrel
    by_cases hin : i < m
    · have t0 : decide ((i : Int) < (m : Int)) = true := by simp; omega
      obtain ⟨z, B, off, hz, ha, hzb, hc⟩ := HI.out.at (i := i) (by have := HM.out; omega)
      subst ha
      have e1 := hc _ (Below.refl _ _)
      have HLZ := Lib.hid hz
      clear hc hz
      by_cases hz0 : z < 0
      · have t1 : decide (z < 0) = true := by simpa using hz0
        have HE : Hid (false = okb) := Lib.hid (by rw [HOK.out]; exact (listed_no (by have := HM.out; omega) (okAt_low HLZ.out (by omega))).symm)
        go_wp2_with fail
        go_ret
        exact ⟨by rw [← HE.out]; rfl, rfl⟩
      · have t1 : decide (z < 0) = false := by simpa using hz0
        by_cases hvn : z < n
        · have t2 : decide ((n : Int) ≤ z) = false := by simp; omega
          have t3 : decide (z ≥ (n : Int)) = false := by simp; omega
          obtain ⟨s, hs⟩ : ∃ s, s = scoreQ l z := ⟨_, rfl⟩
          have KZ := Lib.hid (KS.out z)
          rw [← hs] at KZ
          have HOA : Hid (okAt (n : Int) l i = decide (s = i)) := Lib.hid (by
            rw [okAt_of HLZ.out, hs, score_first HLZ.out]
            have h9 : decide (0 ≤ z ∧ z < (n : Int)) = true := by simp; omega
            rw [h9, Bool.true_and])
          clear hs
          go_wp2_with fail
          refine KZ.out.mono ?_
          rintro en2 w2 ⟨rfl, rfl⟩
          by_cases hsi : s = i
          · have HOK9 : Hid (∀ j, j < i + 1 → okAt (n : Int) l j = true) := Lib.hid (fun j hj => by
              by_cases hji : j = i
              · rw [hji, HOA.out]; simpa using hsi
              · exact hok.out j (by omega))
            subst hsi
            go_wp2_with fail
            go_roundw
            case rel => exact ⟨s + 1, by omega, by go_num, by first | rfl | trivial, HOK9⟩
            case measure => simp [intOf]; omega
          · have u1 : ((s : Int) == (i : Int)) = false := by simp; omega
            have u2 : ((s : Int) != (i : Int)) = true := by simp; omega
            have HE : Hid (false = okb) := Lib.hid (by rw [HOK.out]; exact (listed_no (i := i) (by have := HM.out; omega) (by rw [HOA.out]; simpa using hsi)).symm)
            go_wp2_with fail
            go_ret
            exact ⟨by rw [← HE.out]; rfl, rfl⟩
        · have t2 : decide ((n : Int) ≤ z) = true := by simp; omega
          have t3 : decide (z ≥ (n : Int)) = true := by simp; omega
          have HE : Hid (false = okb) := Lib.hid (by rw [HOK.out]; exact (listed_no (by have := HM.out; omega) (okAt_low HLZ.out (by omega))).symm)
          go_wp2_with fail
          go_ret
          exact ⟨by rw [← HE.out]; rfl, rfl⟩
    · have t0 : decide ((i : Int) < (m : Int)) = false := by simp; omega
      have HE : Hid (true = okb) := Lib.hid (by rw [HOK.out]; exact (listed_yes (fun j hj => hok.out j (by have := HM.out; omega))).symm)
      go_wp2_with fail
      go_ret
      exact ⟨by rw [← HE.out]; rfl, rfl⟩
end Go.Proofs.Ytomnnickiljkgaa
