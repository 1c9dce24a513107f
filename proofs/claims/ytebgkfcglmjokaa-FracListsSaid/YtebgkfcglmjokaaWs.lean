/- Numbers with a sign. -/
import Derived.Test.YtebgkfcglmjokaaWr
namespace Go.Proofs.Ytebgkfcglmjokaa
open Go.RowKit

theorem inum : (Try.prog.info? 61).map (·.size) = some 2 := by kernel_rfl

/-- A number: its words, and whether it is below 0. -/
def NumV (w : World) (v : Value) (z : Int) : Prop := ∃ u, v = .agg #[u, .bool (decide (z < 0))] ∧ IsW w u (digs z.natAbs)
theorem NumV.below {w w' : World} {v : Value} {z : Int} (h : NumV w v z) (hb : Below w.heap.size w w') : NumV w' v z := by
  obtain ⟨u, rfl, hu⟩ := h
  exact ⟨u, rfl, hu.below hb⟩

set_option maxHeartbeats 400000 in
theorem signed_l {w : World} {v : Value} {x : Nat} (hv : IsW w v (digs x)) (b : Bool) :
    Calls Try.prog 68 #[v, .bool b] w fun e w' => e = .returned (.agg #[v, .bool (b && !zerB x)]) ∧ Below w.heap.size w w' := by
  have HV := Lib.hid hv
  obtain ⟨l, hl⟩ : ∃ l, l = digs x := ⟨_, rfl⟩
  rw [← hl] at hv
  obtain ⟨a, cap, hve, -⟩ := hv
  subst hve
  clear hl
  have hB0 : Hid (∀ o, Below w.heap.size w (w.alloc o)) := Lib.hid (fun o => (Below.refl _ _).alloc (Nat.le_refl _) o)
  cases b with
  | false =>
    go_enter Try.func68, Try.ntmps68
    go_wp2_with fail
    exact bodyPost_ret (results_cell_row rfl _ _ w.heap.size _ _ _ _ rfl (heap_alloc_new _ _) Try.underlying61 rfl inum) rfl ⟨by simp, hB0.out _⟩
  | true =>
    go_enter Try.func68, Try.ntmps68
    go_wp2_with fail
    refine (isZero_w (HV.out.below (hB0.out _))).mono ?_
    rintro en w1 ⟨rfl, rfl⟩
    go_wp2_with fail
    exact bodyPost_ret (results_cell_row rfl _ _ w.heap.size _ _ _ _ rfl (heap_alloc_new _ _) Try.underlying61 rfl inum) rfl ⟨by simp, hB0.out _⟩
/-- A number out of its words and its sign. -/
theorem numV_of {w : World} {v : Value} {x : Nat} (hv : IsW w v (digs x)) (b : Bool) : NumV w (.agg #[v, .bool (b && !zerB x)]) (if b then -(x : Int) else x) := by
  refine ⟨v, ?_, ?_⟩
  · congr 3
    cases b with
    | false => simp
    | true => by_cases h : x = 0 <;> simp [zerB, h] <;> omega
  · cases b with
    | false => simpa using hv
    | true => simpa using hv

theorem signed_w {w : World} {v : Value} {x : Nat} (hv : IsW w v (digs x)) (b : Bool) :
    Calls Try.prog 68 #[v, .bool b] w fun e w' => (∃ r, e = .returned (.agg #[v, r]) ∧ NumV w' (.agg #[v, r]) (if b then -(x : Int) else x)) ∧ Below w.heap.size w w' := by
  refine (signed_l hv b).mono ?_
  rintro e w' ⟨rfl, hb⟩
  exact ⟨⟨_, rfl, numV_of (hv.below hb) b⟩, hb⟩

set_option maxHeartbeats 400000 in
theorem fromInt_w {w : World} (n : Int) (h1 : -9223372036854775808 ≤ n) (h2 : n ≤ 9223372036854775807) :
    Calls Try.prog 66 #[.int .i64 n] w fun e w' => (∃ r, e = .returned r ∧ NumV w' r n) ∧ Below w.heap.size w w' := by
  have hB0 : Hid (∀ o, Below w.heap.size w (w.alloc o)) := Lib.hid (fun o => (Below.refl _ _).alloc (Nat.le_refl _) o)
  by_cases hn : n < 0
  · obtain ⟨k, hk⟩ : ∃ k : Nat, n = -(k : Int) := ⟨n.natAbs, by omega⟩
    subst hk
    have w1 : IntKind.u64.wrap (-IntKind.u64.wrap (-(k : Int))) = (k : Int) := by
      rw [IntKind.wrap_u64, IntKind.wrap_u64]; omega
    go_enter Try.func66, Try.ntmps66
    go_wp2_with fail
    refine (fromUint_q k (by omega) _).mono ?_
    rintro en w2 ⟨⟨r, rfl, hr, hro⟩, hbel⟩
    have HR := Lib.hid hr
    have HNE : Hid (r.ownBlock ≠ some w.heap.size) := Lib.hid (fun e => by have := hro _ e; simp at this; omega)
    obtain ⟨ra, rc, hre, -⟩ := hr
    obtain ⟨rn, hrn⟩ : ∃ rn, rn = (digs k).length := ⟨_, rfl⟩
    rw [← hrn] at hre
    subst hre
    have h0 : w2.heap[w.heap.size]? = some (.cells #[Value.slice none 0 0, Value.bool false] 61 (0, 0)) := by
      rw [hbel.block _ (by simp)]; exact heap_alloc_new _ _
    have HBW := Lib.hid (below_trans (hB0.out _) hbel)
    clear hro hrn
    go_wp2_with ((with_reducible refine at_store ?_); refine wpList_store_var rfl _ _ _ rfl w.heap.size rfl _ rfl _ _ h0 inum rfl (by intro v hv; simp at hv; rcases hv with rfl | rfl <;> rfl) ?_; intro w9 h9 hon9; refine halt ?_)
    refine go_on ?_
    go_wp2_with fail
    exact bodyPost_ret (results_cell_row rfl _ _ w.heap.size _ _ _ _ rfl h9 Try.underlying61 rfl inum) rfl ⟨⟨_, rfl, .slice ra rn rc, by rw [decide_eq_true (show -(k : Int) < 0 by omega)], by rw [Int.natAbs_neg, Int.natAbs_natCast]; exact HR.out.only hon9 HNE.out⟩, below_only HBW.out hon9 (Nat.le_refl _)⟩
  · obtain ⟨k, hk⟩ : ∃ k : Nat, n = (k : Int) := ⟨n.natAbs, by omega⟩
    subst hk
    go_enter Try.func66, Try.ntmps66
    go_wp2_with fail
    refine (fromUint_q k (by omega) _).mono ?_
    rintro en w2 ⟨⟨r, rfl, hr, hro⟩, hbel⟩
    have HR := Lib.hid hr
    have HNE : Hid (r.ownBlock ≠ some w.heap.size) := Lib.hid (fun e => by have := hro _ e; simp at this; omega)
    obtain ⟨ra, rc, hre, -⟩ := hr
    obtain ⟨rn, hrn⟩ : ∃ rn, rn = (digs k).length := ⟨_, rfl⟩
    rw [← hrn] at hre
    subst hre
    have h0 : w2.heap[w.heap.size]? = some (.cells #[Value.slice none 0 0, Value.bool false] 61 (0, 0)) := by
      rw [hbel.block _ (by simp)]; exact heap_alloc_new _ _
    have HBW := Lib.hid (below_trans (hB0.out _) hbel)
    clear hro hrn
    go_wp2_with ((with_reducible refine at_store ?_); refine wpList_store_var rfl _ _ _ rfl w.heap.size rfl _ rfl _ _ h0 inum rfl (by intro v hv; simp at hv; rcases hv with rfl | rfl <;> rfl) ?_; intro w9 h9 hon9; refine halt ?_)
    refine go_on ?_
    go_wp2_with fail
    exact bodyPost_ret (results_cell_row rfl _ _ w.heap.size _ _ _ _ rfl h9 Try.underlying61 rfl inum) rfl ⟨⟨_, rfl, .slice ra rn rc, by rw [decide_eq_false (show ¬ (k : Int) < 0 by omega)], by rw [Int.natAbs_natCast]; exact HR.out.only hon9 HNE.out⟩, below_only HBW.out hon9 (Nat.le_refl _)⟩

set_option maxHeartbeats 400000 in
theorem sign_w {w : World} {v : Value} {z : Int} (hv : NumV w v z) :
    Calls Try.prog 84 #[v] w fun e w' => e = .returned (.int .i64 z.sign) ∧ Below w.heap.size w w' := by
  obtain ⟨u, rfl, hu⟩ := hv
  have HU := Lib.hid hu
  obtain ⟨l, hl⟩ : ∃ l, l = digs z.natAbs := ⟨_, rfl⟩
  rw [← hl] at hu
  obtain ⟨a, cap, hve, -⟩ := hu
  subst hve
  clear hl
  have hB0 : Hid (∀ o, Below w.heap.size w (w.alloc o)) := Lib.hid (fun o => (Below.refl _ _).alloc (Nat.le_refl _) o)
  go_enter Try.func84, Try.ntmps84
  go_wp2_with fail
  refine (isZero_w (HU.out.below (hB0.out _))).mono ?_
  rintro en w1 ⟨rfl, rfl⟩
  by_cases hz : z = 0
  · have hz1 := zerB_true (x := z.natAbs) (by omega)
    have HZ := Lib.hid hz
    clear hz
    go_wp2_with fail
    go_ret
    exact ⟨ret_int (by rw [HZ.out]; rfl), hB0.out _⟩
  · have hz1 := zerB_false (x := z.natAbs) (by omega)
    by_cases hn : z < 0
    · have hd : decide (z < 0) = true := by simp [hn]
      have HN := Lib.hid hn
      clear hz hn
      go_wp2_with fail
      go_ret
      exact ⟨ret_int (by rw [Int.sign_eq_neg_one_of_neg HN.out]), hB0.out _⟩
    · have hd : decide (z < 0) = false := by simp; omega
      have HN : Hid (0 < z) := Lib.hid (by omega)
      clear hz hn
      go_wp2_with fail
      go_ret
      exact ⟨ret_int (by rw [Int.sign_eq_one_of_pos HN.out]), hB0.out _⟩
end Go.Proofs.Ytebgkfcglmjokaa
