/- Several texts in one: Yz. -/
import Derived.Test.YtafenoohjcpjgaaGreatZ32
import Derived.Test.YtafenoohjcpjgaaGreatZ37
import Derived.Test.YtafenoohjcpjgaaGreatZ38
import Derived.Test.YtafenoohjcpjgaaGreatZ39
import Derived.Test.YtafenoohjcpjgaaGreatZ40
import Derived.Deep.RegionHeld3
import Derived.Deep.DrawnRows
/- Normal, Dual and Fixed, whatever comes in; the dual of the dual. -/
namespace Go.Proofs.YtafenoohjcpjgaaGreat
open Go.RowKit
attribute [local go_sem ↓] Go.wp_at_zero Go.wp_at_succ

/-- Right, of short numbers, not too large. -/
structure GoodP (P : Pm) : Prop where
  small : SmallP 4096 P
  right : rightB2 P = true
  vars : P.vars ≤ 160
  rows : P.rows.length ≤ 400
theorem SmallP.up {M M' : Nat} {P : Pm} (h : SmallP M P) (hM : M ≤ M') : SmallP M' P :=
  ⟨fun i hi => Nat.le_trans (h.1 i hi) hM, fun i r hr => ⟨fun j hj => Nat.le_trans ((h.2 i r hr).1 j hj) hM, Nat.le_trans (h.2 i r hr).2 hM⟩⟩
theorem GoodP.norm {P : Pm} (h : GoodP P) : GoodP (normP P) :=
  ⟨h.small.norm, right_norm h.right, h.vars, by show (P.rows.map turnR).length ≤ 400; rw [List.length_map]; exact h.rows⟩
theorem right_rows {P : Pm} (h : rightB2 P = true) : ∀ r ∈ P.rows, okRow P.vars r = true := by
  unfold rightB2 at h
  simp only [Bool.and_eq_true] at h
  exact List.all_eq_true.1 h.2
theorem dual_row {n : Pm} {j : Nat} {r : List Rat × Int × Rat} (h : (dualN n).rows[j]? = some r) : j < n.goal.length ∧ r = dualR n j := by
  have h9 : ((List.range n.goal.length).map (dualR n))[j]? = some r := h
  rw [List.getElem?_map] at h9
  by_cases hj : j < n.goal.length
  · rw [List.getElem?_range hj] at h9
    exact ⟨hj, (Option.some.inj h9).symm⟩
  · rw [List.getElem?_eq_none (by simpa using hj)] at h9
    cases h9
theorem dualR_len (n : Pm) (j : Nat) : (dualR n j).1.length = n.rows.length := by simp [dualR]
theorem dualR_sense (n : Pm) (j : Nat) : (dualR n j).2.1 = 0 ∨ (dualR n j).2.1 = -1 := by
  unfold dualR
  dsimp only
  split
  · exact .inl rfl
  · exact .inr rfl
theorem right_dual {n : Pm} (h0 : 0 < n.rows.length) : rightB2 (dualN n) = true := by
  unfold rightB2
  rw [Bool.and_eq_true]
  refine ⟨?_, ?_⟩
  · simp only [headP, decide_eq_true_eq]
    show (1 : Int) ≤ (n.rows.length : Int) ∧ (((n.rows.map (fun r => decide (r.2.1 = 0))).length : Nat) : Int) = (n.rows.length : Int) ∧ (((n.rows.map (fun r => -r.2.2)).length : Nat) : Int) = (n.rows.length : Int)
    rw [List.length_map, List.length_map]
    omega
  · apply all_rows
    intro j r _ hr
    obtain ⟨hj, rfl⟩ := dual_row hr
    have h1 := dualR_len n j
    have h2 := dualR_sense n j
    simp only [okRow, decide_eq_true_eq]
    show ((dualR n j).1.length : Int) = (n.rows.length : Int) ∧ _
    omega
theorem GoodP.dual {n : Pm} (h : GoodP n) (h0 : 0 < n.rows.length) (h1 : n.rows.length ≤ 160) : GoodP (dualN n) := by
  have hg := right_goal h.right
  refine ⟨⟨fun i hi => ?_, fun j r hr => ?_⟩, right_dual h0, ?_, ?_⟩
  · have hi9 : i < (n.rows.map (fun r => -r.2.2)).length := hi
    rw [List.length_map] at hi9
    show lenQ (nthQ (n.rows.map (fun r => -r.2.2)) i) ≤ 4096
    rw [nth_sides hi9, len_negq, bQ_of (List.getElem?_eq_getElem hi9)]
    exact (h.small.2 i _ (List.getElem?_eq_getElem hi9)).2
  · obtain ⟨hj, rfl⟩ := dual_row hr
    refine ⟨fun i hi => ?_, ?_⟩
    · rw [dualR_len] at hi
      show lenQ (nthQ (n.rows.map (fun r => -(nthQ r.1 j))) i) ≤ 4096
      rw [nth_column hi, len_negq, aQ_of (List.getElem?_eq_getElem hi)]
      refine (h.small.2 i _ (List.getElem?_eq_getElem hi)).1 j ?_
      have := row_len h.right (List.getElem?_eq_getElem hi)
      omega
    · show lenQ (-(nthQ n.goal j)) ≤ 4096
      rw [len_negq]
      exact h.small.1 j hj
  · show (n.rows.length : Int) ≤ 160
    omega
  · show ((List.range n.goal.length).map (dualR n)).length ≤ 400
    rw [List.length_map, List.length_range]
    have := h.vars
    omega
theorem bit_small {z : Int} (h : badB z = false) : lenQ (bitR z) ≤ 2 := by
  simp only [badB, Bool.and_eq_false_iff, decide_eq_false_iff_not] at h
  exact bitR_len (by omega)
theorem GoodP.fix {P : Pm} (h : GoodP P) {l bs : List Int} (hl : l.length = bs.length) (hb : bs.any badB = false) (hr : P.rows.length + l.length ≤ 400) : GoodP (fixP P l bs) := by
  have hg := right_goal h.right
  have parts : ∀ (i : Nat) (r : List Rat × Int × Rat), (fixP P l bs).rows[i]? = some r → P.rows[i]? = some r ∨ ∃ k, k < l.length ∧ r = bndR P.vars.toNat l bs k := by
    intro i r hr
    have h9 : (P.rows ++ bndL P.vars.toNat l bs l.length)[i]? = some r := hr
    by_cases hi : i < P.rows.length
    · rw [List.getElem?_append_left hi] at h9
      exact .inl h9
    · rw [List.getElem?_append_right (by omega)] at h9
      unfold bndL at h9
      rw [List.getElem?_map] at h9
      by_cases hk : i - P.rows.length < l.length
      · rw [List.getElem?_range hk] at h9
        exact .inr ⟨_, hk, (Option.some.inj h9).symm⟩
      · rw [List.getElem?_eq_none (by simpa using hk)] at h9
        cases h9
  refine ⟨⟨h.small.1, fun i r hr => ?_⟩, ?_, h.vars, ?_⟩
  · rcases parts i r hr with h9 | ⟨k, hk, rfl⟩
    · exact h.small.2 i r h9
    · refine ⟨fun j hj => ?_, ?_⟩
      · have hj9 : j < (unitQ P.vars.toNat ((l[k]?).getD 0).toNat).length := hj
        rw [unitQ_len] at hj9
        show lenQ (nthQ (unitQ P.vars.toNat ((l[k]?).getD 0).toNat) j) ≤ 4096
        rw [unitQ_at hj9]
        have := len_one9
        have := len_nought9
        split <;> omega
      · show lenQ (bitR ((bs[k]?).getD 0)) ≤ 4096
        rw [List.getElem?_eq_getElem (by omega)]
        have := bit_small (z := bs[k]) (by
          have := List.any_eq_false.1 hb bs[k] (List.getElem_mem _)
          simpa using this)
        show lenQ (bitR bs[k]) ≤ 4096
        omega
  · have h1 := h.right
    unfold rightB2 at h1 ⊢
    simp only [Bool.and_eq_true] at h1 ⊢
    refine ⟨h1.1, all_rows fun i r _ hr => ?_⟩
    rcases parts i r hr with h9 | ⟨k, hk, rfl⟩
    · exact right_rows h.right r (List.mem_of_getElem? h9)
    · simp only [okRow, decide_eq_true_eq]
      show ((unitQ P.vars.toNat ((l[k]?).getD 0).toNat).length : Int) = P.vars ∧ (-1 : Int) ≤ 0 ∧ (0 : Int) ≤ 1
      rw [unitQ_len]
      omega
  · show (P.rows ++ bndL P.vars.toNat l bs l.length).length ≤ 400
    rw [List.length_append, bndL_len]
    exact hr
theorem norm_same {n : Pm} (h : ∀ r ∈ n.rows, r.2.1 ≠ 1) : normP n = n := by
  unfold normP
  have : n.rows.map turnR = n.rows := by
    conv => rhs; rw [← List.map_id n.rows]
    apply List.map_congr_left
    intro r hr
    unfold turnR
    rw [if_neg (h r hr)]
    rfl
  rw [this]
theorem nth_ext {qs : List Rat} {f : Nat → Rat} {m : Nat} (hm : qs.length = m) (h : ∀ i, i < m → f i = nthQ qs i) : (List.range m).map f = qs := by
  apply List.ext_getElem?
  intro i
  rw [List.getElem?_map]
  by_cases hi : i < m
  · rw [List.getElem?_range hi]
    have h9 : i < qs.length := by omega
    rw [List.getElem?_eq_getElem h9]
    show some (f i) = _
    rw [h i hi, nthQ_of (List.getElem?_eq_getElem h9)]
  · rw [List.getElem?_eq_none (by simpa using hi), List.getElem?_eq_none (by omega)]
    rfl
/-- The dual of the dual is the program whose rows are turned. -/
theorem dual_back {P : Pm} (h : rightB2 P = true) : dualN (normP (dualN (normP P))) = normP P := by
  obtain ⟨n, hn⟩ : ∃ n, n = normP P := ⟨_, rfl⟩
  have hr : rightB2 n = true := by rw [hn]; exact right_norm h
  have hs : ∀ (i : Nat) (r : List Rat × Int × Rat), n.rows[i]? = some r → r.2.1 = -1 ∨ r.2.1 = 0 := fun i r hi => norm_sense h (by rw [← hn]; exact hi)
  rw [← hn]
  have hg := right_goal hr
  rw [norm_same (n := dualN n) (fun r hr => by
    obtain ⟨j, hj⟩ := List.getElem?_of_mem hr
    obtain ⟨-, rfl⟩ := dual_row hj
    have := dualR_sense n j
    omega)]
  have e1 : ((dualN n).rows.length : Int) = n.vars := by
    show (((List.range n.goal.length).map (dualR n)).length : Int) = n.vars
    rw [List.length_map, List.length_range]
    exact hg.1
  have e2 : (dualN n).rows.map (fun r => decide (r.2.1 = 0)) = n.free := by
    show ((List.range n.goal.length).map (dualR n)).map (fun r => decide (r.2.1 = 0)) = n.free
    rw [List.map_map]
    apply List.ext_getElem?
    intro i
    rw [List.getElem?_map]
    by_cases hi : i < n.goal.length
    · rw [List.getElem?_range hi]
      have h9 : i < n.free.length := by omega
      rw [List.getElem?_eq_getElem h9]
      show some (decide ((dualR n i).2.1 = 0)) = some n.free[i]
      unfold dualR
      dsimp only
      rw [List.getElem?_eq_getElem h9]
      cases n.free[i] <;> rfl
    · rw [List.getElem?_eq_none (by simpa using hi), List.getElem?_eq_none (by omega)]
      rfl
  have e3 : (dualN n).rows.map (fun r => -r.2.2) = n.goal := by
    show ((List.range n.goal.length).map (dualR n)).map (fun r => -r.2.2) = n.goal
    rw [List.map_map]
    exact nth_ext rfl (fun i hi => by
      show - -(nthQ n.goal i) = nthQ n.goal i
      exact Rat.neg_neg _)
  have e4 : (List.range (dualN n).goal.length).map (dualR (dualN n)) = n.rows := by
    have hl : (dualN n).goal.length = n.rows.length := by
      show (n.rows.map (fun r => -r.2.2)).length = n.rows.length
      rw [List.length_map]
    rw [hl]
    apply List.ext_getElem?
    intro i
    rw [List.getElem?_map]
    by_cases hi : i < n.rows.length
    · rw [List.getElem?_range hi, List.getElem?_eq_getElem hi]
      show some (dualR (dualN n) i) = some n.rows[i]
      congr 1
      have hrow := List.getElem?_eq_getElem hi
      have hlen := row_len hr hrow
      have hsn := hs i _ hrow
      have f1 : (dualN n).rows.map (fun r => -(nthQ r.1 i)) = n.rows[i].1 := by
        show ((List.range n.goal.length).map (dualR n)).map (fun r => -(nthQ r.1 i)) = n.rows[i].1
        rw [List.map_map]
        exact nth_ext (by omega) (fun j hj => by
          show -(nthQ (n.rows.map (fun r => -(nthQ r.1 j))) i) = nthQ n.rows[i].1 j
          rw [nth_column hi, aQ_of hrow]
          exact Rat.neg_neg _)
      have f2 : ((dualN n).free[i]?).getD false = decide (n.rows[i].2.1 = 0) := by
        show (((n.rows.map (fun r => decide (r.2.1 = 0)))[i]?).getD false) = _
        rw [List.getElem?_map, hrow]
        rfl
      have f3 : -(nthQ (dualN n).goal i) = n.rows[i].2.2 := by
        show -(nthQ (n.rows.map (fun r => -r.2.2)) i) = _
        rw [nth_sides hi, bQ_of hrow]
        exact Rat.neg_neg _
      unfold dualR
      rw [f1, f2, f3]
      have f4 : (if decide (n.rows[i].2.1 = 0) = true then (0 : Int) else -1) = n.rows[i].2.1 := by
        rcases hsn with e | e <;> rw [e] <;> rfl
      rw [f4]
    · rw [List.getElem?_eq_none (by simpa using hi), List.getElem?_eq_none (by omega)]
      rfl
  show Pm.mk _ _ _ _ = n
  rw [e1, e2, e3, e4]

/-- What is told: a program, or the zero one. -/
def ResN (K : RowK) (w : World) (ok : Bool) (P : Pm) (r : Value) : Prop := if ok = true then ∃ base, ProgN K w base r P else r = zeroP
theorem ResN.below {K : RowK} {w w' : World} {ok : Bool} {P : Pm} {r : Value} (h : ResN K w ok P r) (hb : Below w.heap.size w w') : ResN K w' ok P r := by
  unfold ResN at h ⊢
  split at h
  · rename_i e
    rw [if_pos e]
    obtain ⟨base, h⟩ := h
    exact ⟨base, h.below hb⟩
  · rename_i e
    rw [if_neg e]
    exact h
def errI (ok : Bool) : Int := if ok = true then 0 else 20
def NPost (K : RowK) (w : World) (ok : Bool) (P : Pm) (e : Ending) (w' : World) : Prop :=
  (∃ z fa fn fc ga gn gc ra rn rc, e = .returned (.tuple #[.agg #[.int .i64 z, .slice fa fn fc, .slice ga gn gc, .slice ra rn rc], .int .i64 (errI ok)]) ∧ ResN K w' ok P (.agg #[.int .i64 z, .slice fa fn fc, .slice ga gn gc, .slice ra rn rc])) ∧ Below w.heap.size w w'
theorem npost_yes {K : RowK} {w w' : World} {P : Pm} {e : Ending} {base : Nat} (h : (∃ r, e = .returned (.tuple #[r, .int .i64 0]) ∧ ProgN K w' base r P) ∧ Below w.heap.size w w') : NPost K w true P e w' := by
  obtain ⟨⟨r, he, hp⟩, hb⟩ := h
  obtain ⟨fa, fc, ga, gc, ra, rc, mid, rfl, h1⟩ := id hp
  exact ⟨⟨_, _, _, _, _, _, _, _, _, _, he, by unfold ResN; rw [if_pos rfl]; exact ⟨base, hp⟩⟩, hb⟩
theorem npost_no {K : RowK} {w w' : World} {P : Pm} {e : Ending} (h : e = .returned (.tuple #[zeroP, .int .i64 20]) ∧ Below w.heap.size w w') : NPost K w false P e w' :=
  ⟨⟨0, none, 0, 0, none, 0, 0, none, 0, 0, h.1, by unfold ResN; rw [if_neg (by decide)]; rfl⟩, h.2⟩
section
variable {N : Nat} {w : World} {v : Value} {P : Pm}
theorem pnormal_a (h : ProgF N w v P) (hN : N ≤ 500) (hf : Fit P) : Calls Tryz.prog 6 #[v] w (NPost rkV w (rightB2 P) (normP P)) := by
  cases hrb : rightB2 P with
  | true => exact (pnormal_w h hrb hN hf.1 hf.2.1).mono fun e w' h => npost_yes h
  | false => exact (pnormal_no h hrb hf).mono fun e w' h => npost_no h
theorem rnormal_a (h : ProgF N w v P) (hN : N ≤ 500) (hf : Fit P) : Calls Tryz.prog 7 #[v] w (NPost (rkF (2 * N + 1)) w (rightB2 P) (normP P)) := by
  cases hrb : rightB2 P with
  | true => exact (rnormal_w h hrb hN hf.1 hf.2.1).mono fun e w' h => npost_yes h
  | false => exact (rnormal_no h hrb hf).mono fun e w' h => npost_no h
theorem pdual_a (h : ProgF N w v P) (hN : N ≤ 500) (hf : Fit P) (hr : P.rows.length ≤ 160) : Calls Tryz.prog 8 #[v] w (NPost rkV w (rightB2 P && decide (0 < P.rows.length)) (dualN (normP P))) := by
  cases hrb : rightB2 P with
  | true =>
    by_cases h0 : 0 < P.rows.length
    · rw [show decide (0 < P.rows.length) = true by simpa using h0]
      exact (pdual_w h hrb hN hf.1 h0 hr).mono fun e w' h => npost_yes h
    · rw [show decide (0 < P.rows.length) = false by simpa using h0]
      exact (pdual_nil h hrb hN hf.1 (by omega)).mono fun e w' h => npost_no h
  | false => exact (pdual_no h hrb hf).mono fun e w' h => npost_no h
theorem rdual_a (h : ProgF N w v P) (hN : N ≤ 500) (hf : Fit P) (hr : P.rows.length ≤ 160) : Calls Tryz.prog 9 #[v] w (NPost (rkF (2 * N + 1)) w (rightB2 P && decide (0 < P.rows.length)) (dualN (normP P))) := by
  cases hrb : rightB2 P with
  | true =>
    by_cases h0 : 0 < P.rows.length
    · rw [show decide (0 < P.rows.length) = true by simpa using h0]
      exact (rdual_w h hrb hN hf.1 h0 hr).mono fun e w' h => npost_yes h
    · rw [show decide (0 < P.rows.length) = false by simpa using h0]
      exact (rdual_nil h hrb hN hf.1 (by omega)).mono fun e w' h => npost_no h
  | false => exact (rdual_no h hrb hf).mono fun e w' h => npost_no h
/-- Do variables and bits go together? -/
def fixB (P : Pm) (l bs : List Int) : Bool := rightB2 P && (decide (l.length = bs.length) && (okV P.vars l && !(bs.any badB)))
variable {m m2 vc bc : Nat} {va ba : Option Addr} {l bs : List Int}
theorem pfixd_a (h : ProgF N w v P) (hN : N ≤ 500) (hf : Fit P) (hr : P.rows.length ≤ 200) (hl : IntsF w va l) (hbs : IntsF w ba bs) (hm : m = l.length) (hm2 : m2 = bs.length) (hm9 : m ≤ 160) : Calls Tryz.prog 10 #[v, .slice va m vc, .slice ba m2 bc] w (NPost rkV w (fixB P l bs) (fixP P l bs)) := by
  unfold fixB
  cases hrb : rightB2 P with
  | false => exact (pfixd_no h hrb hf).mono fun e w' h => npost_no h
  | true =>
    rw [Bool.true_and]
    cases hq : (decide (l.length = bs.length) && (okV P.vars l && !(bs.any badB))) with
    | false => exact (pfixd_bad h hrb hf.1 hr hl hbs hm hm2 hm9 hq).mono fun e w' h => npost_no h
    | true =>
      simp only [Bool.and_eq_true, decide_eq_true_eq, Bool.not_eq_true'] at hq
      obtain ⟨q1, q2, q3⟩ := hq
      have e : m2 = m := by omega
      subst e
      exact (pfixd_w h hrb hN hf.1 hr hl hbs hm q1 hm9 q2 q3).mono fun e w' h => npost_yes h
theorem rfixd_a (h : ProgF N w v P) (hN : N ≤ 500) (hN1 : 1 ≤ N) (hf : Fit P) (hr : P.rows.length ≤ 200) (hl : IntsF w va l) (hbs : IntsF w ba bs) (hm : m = l.length) (hm2 : m2 = bs.length) (hm9 : m ≤ 160) (hvc : m ≤ vc) : Calls Tryz.prog 11 #[v, .slice va m vc, .slice ba m2 bc] w (NPost (rkF (2 * N + 1)) w (fixB P l bs) (fixP P l bs)) := by
  unfold fixB
  cases hrb : rightB2 P with
  | false => exact (rfixd_no h hrb hf).mono fun e w' h => npost_no h
  | true =>
    rw [Bool.true_and]
    cases hq : (decide (l.length = bs.length) && (okV P.vars l && !(bs.any badB))) with
    | false => exact (rfixd_bad h hrb hf.1 hr hl hbs hm hm2 hm9 hvc hq).mono fun e w' h => npost_no h
    | true =>
      simp only [Bool.and_eq_true, decide_eq_true_eq, Bool.not_eq_true'] at hq
      obtain ⟨q1, q2, q3⟩ := hq
      have e : m2 = m := by omega
      subst e
      exact (rfixd_w h hrb hN hN1 hf.1 hr hl hbs hm q1 hm9 hvc q2 q3).mono fun e w' h => npost_yes h
end
theorem good_rows {P : Pm} (h : GoodP P) : P.free.length ≤ 1000 ∧ P.goal.length ≤ 1000 ∧ P.rows.length ≤ 1000 ∧ ∀ (i : Nat) (r : List Rat × Int × Rat), P.rows[i]? = some r → r.1.length ≤ 1000 := by
  have hg := right_goal h.right
  have hv := h.vars
  have hr := h.rows
  refine ⟨by omega, by omega, by omega, fun i r hi => ?_⟩
  have := row_len h.right hi
  omega
theorem same_res {M : Nat} {w : World} {ok : Bool} {P : Pm} {r r' : Value} (ha : ResN rkV w ok P r) (hb : ResN (rkF M) w ok P r') (hM : M ≤ 2048) (hg : ok = true → GoodP P) : Calls Tryz.prog 12 #[r, r'] w fun e w' => e = .returned (.bool true) ∧ Below w.heap.size w w' := by
  unfold ResN at ha hb
  cases ok with
  | false =>
    rw [if_neg (by decide)] at ha hb
    subst ha
    subst hb
    exact same_zero
  | true =>
    rw [if_pos rfl] at ha hb
    obtain ⟨b1, ha⟩ := ha
    obtain ⟨b2, hb⟩ := hb
    have hG := hg rfl
    obtain ⟨g1, g2, g3, g4⟩ := good_rows hG
    exact same_prog ha (hb.readF hG.right (by have := hG.vars; omega)) hM hG.small g1 g2 g3 g4
theorem same_rr {w : World} {P : Pm} {M : Nat} {r r' : Value} (ha : ResN rkV w true P r) (hb : ResN rkV w true P r') (hM : M ≤ 2048) (hs : SmallP M P) (hG : GoodP P) : Calls Tryz.prog 12 #[r, r'] w fun e w' => e = .returned (.bool true) ∧ Below w.heap.size w w' := by
  unfold ResN at ha hb
  rw [if_pos rfl] at ha hb
  obtain ⟨b1, ha⟩ := ha
  obtain ⟨b2, hb⟩ := hb
  obtain ⟨g1, g2, g3, g4⟩ := good_rows hG
  exact same_prog ha (hb.read hs (by omega) hG.right (by have := hG.vars; omega)) hM hG.small g1 g2 g3 g4
end Go.Proofs.YtafenoohjcpjgaaGreat
