/- One number again and again: slices.Repeat, nothing. -/
import Derived.Test.YtomnnickiljkgaaHe
import Derived.Deep.RegionLaw
namespace Go.Proofs.Ytomnnickiljkgaa
open Go.RowKit
attribute [local go_sem ↓] Go.wp_at_zero Go.wp_at_succ

set_option maxRecDepth 8000 in
set_option maxHeartbeats 4000000 in
theorem mul64_w {w : World} {n : Nat} (hn : n ≤ 8) :
    Calls Try.prog 82 #[.int .u64 1, .int .u64 (n : Nat)] w fun e w' => e = .returned (.tuple #[.int .u64 0, .int .u64 (n : Nat)]) ∧ w = w' := by
  rcases (by omega : n = 0 ∨ n = 1 ∨ n = 2 ∨ n = 3 ∨ n = 4 ∨ n = 5 ∨ n = 6 ∨ n = 7 ∨ n = 8) with rfl | rfl | rfl | rfl | rfl | rfl | rfl | rfl | rfl
  · clear hn
    go_enter Try.func82, Try.ntmps82
    go_wp2_with fail
    go_ret2
    exact ⟨rfl, rfl⟩
  · clear hn
    go_enter Try.func82, Try.ntmps82
    go_wp2_with fail
    go_ret2
    exact ⟨rfl, rfl⟩
  · clear hn
    go_enter Try.func82, Try.ntmps82
    go_wp2_with fail
    go_ret2
    exact ⟨rfl, rfl⟩
  · clear hn
    go_enter Try.func82, Try.ntmps82
    go_wp2_with fail
    go_ret2
    exact ⟨rfl, rfl⟩
  · clear hn
    go_enter Try.func82, Try.ntmps82
    go_wp2_with fail
    go_ret2
    exact ⟨rfl, rfl⟩
  · clear hn
    go_enter Try.func82, Try.ntmps82
    go_wp2_with fail
    go_ret2
    exact ⟨rfl, rfl⟩
  · clear hn
    go_enter Try.func82, Try.ntmps82
    go_wp2_with fail
    go_ret2
    exact ⟨rfl, rfl⟩
  · clear hn
    go_enter Try.func82, Try.ntmps82
    go_wp2_with fail
    go_ret2
    exact ⟨rfl, rfl⟩
  · clear hn
    go_enter Try.func82, Try.ntmps82
    go_wp2_with fail
    go_ret2
    exact ⟨rfl, rfl⟩
set_option maxRecDepth 8000 in
set_option maxHeartbeats 4000000 in
theorem mul_w {w : World} {n : Nat} (hn : n ≤ 8) :
    Calls Try.prog 69 #[.int .u64 1, .int .u64 (n : Nat)] w fun e w' => e = .returned (.tuple #[.int .u64 0, .int .u64 (n : Nat)]) ∧ w = w' := by
  have KM := Lib.hid (mul64_w (w := w) hn)
  go_enter Try.func69, Try.ntmps69
  go_wp2_with fail
  refine KM.out.mono ?_
  rintro en2 w2 ⟨rfl, rfl⟩
  go_wp2_with fail
  go_ret2
  first | done | exact ⟨rfl, rfl⟩

/-- A guard: the next operation is a copy. -/
theorem at_copy {P : Program} {w : World} {ops : Array Oper} {rest : List Oper} {dst : Option Tmp} {type : TypeId} {pos : String} {after : Array Edge} {guard : Option (Nat × Bool)} {args : Array Operand} {ts : Array TypeId} {a : Act} {Q : Exit → Act → World → Prop}
    (h : wpList P ops Q (⟨dst, .call { callee := .builtin .copy, args := args, argTypes := ts }, type, pos, after, guard⟩ :: rest) a w) : wpList P ops Q (⟨dst, .call { callee := .builtin .copy, args := args, argTypes := ts }, type, pos, after, guard⟩ :: rest) a w := h
theorem splice_rep {n k : Nat} {x : Int} (hk : k ≤ n) (j : Nat) (hj : k + j ≤ n) :
    splice ((List.replicate k x ++ List.replicate (n - k) (0 : Int)).map (Value.int .i64)) k (List.replicate j (Value.int .i64 x)) = (List.replicate (k + j) x ++ List.replicate (n - (k + j)) (0 : Int)).map (Value.int .i64) := by
  unfold splice
  simp only [List.map_append, List.map_replicate, List.length_replicate]
  apply List.ext_getElem?
  intro i
  by_cases h1 : i < k
  · rw [List.getElem?_append_left (by simp; omega), List.getElem?_take, if_pos h1, List.getElem?_append_left (by simpa using h1), List.getElem?_append_left (by simp; omega)]
    simp [h1, show i < k + j by omega]
  · have hl : ((List.replicate k (Value.int .i64 x) ++ List.replicate (n - k) (Value.int .i64 0)).take k).length = k := by simp
    rw [List.getElem?_append_right (by rw [hl]; omega), hl]
    by_cases h2 : i < k + j
    · rw [List.getElem?_append_left (by simp; omega), List.getElem?_append_left (by simp; omega)]
      simp [h2, show i - k < j by omega]
    · rw [List.getElem?_append_right (by simp; omega), List.getElem?_drop, List.getElem?_append_right (by simp; omega), List.getElem?_append_right (by simp; omega)]
      simp only [List.length_replicate, List.getElem?_replicate]
      by_cases h3 : i < n
      · rw [if_pos (by omega), if_pos (by omega)]
      · rw [if_neg (by omega), if_neg (by omega)]

set_option maxRecDepth 8000 in
set_option maxHeartbeats 4000000 in
theorem repeat_w {w : World} {B0 n : Nat} {x : Int} (h : w.cell? ⟨B0, 0, none⟩ = some (.int .i64 x)) (hn : n ≤ 8) :
    Calls Try.prog 63 #[.slice (some ⟨B0, 0, none⟩) 1 1, .int .i64 (n : Nat)] w fun e w' => ∃ B, e = .returned (.slice (some ⟨B, 0, none⟩) n n) ∧ w.heap.size ≤ B ∧ BlkI w' B (List.replicate n x) ∧ Below w.heap.size w w' := by
  have KM := Lib.hid (mul_w (w := w) hn)
  have HX := Lib.hid h
  clear h
  have t0 : decide ((n : Int) < 0) = false := by simp
  go_enter Try.func63, Try.ntmps63
  go_wp2_with fail
  refine KM.out.mono ?_
  rintro en2 w2 ⟨rfl, rfl⟩
  have t1 : decide ((n : Int) > 9223372036854775807) = false := by simp; omega
  have t2 : decide ((9223372036854775807 : Int) < (n : Int)) = false := by simp; omega
  go_wp2_with (at_make; refine wpList_make_ints rfl _ _ _ rfl Try.underlying23 info_int9 n rfl rfl (by omega) ?_; intro w2 hr2 hb2 hs2; refine halt ?_)
  refine go_on ?_
  obtain ⟨G, hG⟩ : ∃ G, G = w.heap.size := ⟨_, rfl⟩
  have HG := Lib.hid hG
  rw [← hG] at hr2 ⊢
  have HC : Hid (w2.cell? ⟨B0, 0, none⟩ = some (.int .i64 x)) := Lib.hid (cell_below hb2 HX.out)
  have HZ2 : Hid (Below w.heap.size w w2) := Lib.hid hb2
  have HT2 : Hid (w2.heap[G]? = some (.cells ((List.replicate 0 x ++ List.replicate (n - 0) (0 : Int)).map (Value.int .i64)).toArray 3 (0, 0))) := Lib.hid hr2
  obtain ⟨cur, hcur⟩ : ∃ cur, cur = (List.replicate 0 x ++ List.replicate (n - 0) (0 : Int)).map (Value.int .i64) := ⟨_, rfl⟩
  have HCU := Lib.hid hcur
  rw [← hcur] at HT2
  obtain ⟨j0, hj0⟩ : ∃ j0, j0 = min 1 n := ⟨_, rfl⟩
  obtain ⟨cs, hcs⟩ : ∃ cs, cs = List.replicate j0 (Value.int .i64 x) := ⟨_, rfl⟩
  have HCL : Hid (cs.length = j0) := Lib.hid (by rw [hcs]; simp)
  have HCS := Lib.hid hcs
  have HJ0 := Lib.hid hj0
  have HCUL : Hid (cur.length = n) := Lib.hid (by rw [hcur]; simp)
  clear hr2 hb2 hs2 hG hcur hcs hj0 KM
  go_wp2_with ((with_reducible refine at_copy ?_); refine wpList_copy_splice rfl (.tmp 31) (.tmp 32) 23 23 rfl 3 Try.underlying23 (by kernel_rfl) (some ⟨G, 0, none⟩) (some ⟨B0, 0, none⟩) n n 1 1 rfl rfl G 0 cur 3 HT2.out cs (HCL.out.trans HJ0.out) (fun _ => ⟨rfl, _, rfl, fun j v hv => by
    rw [HCS.out, List.getElem?_replicate] at hv
    split at hv
    · cases hv
      have hj : j = 0 := by have := HJ0.out; omega
      subst hj
      exact HC.out
    · cases hv⟩) (by rw [HCL.out, HCUL.out]; have := HJ0.out; omega) (fun v hv => by rw [HCS.out] at hv; rw [List.eq_of_mem_replicate hv]; rfl) w.heap.size w HZ2.out (by rw [HG.out]; exact Nat.le_refl _) ?_; intro w3 hg3 hb3; refine halt ?_)
  refine go_on ?_
  have HZ3 : Hid (Below w.heap.size w w3) := Lib.hid hb3
  have HT3 : Hid (w3.heap[G]? = some (.cells ((List.replicate j0 x ++ List.replicate (n - j0) (0 : Int)).map (Value.int .i64)).toArray 3 (0, 0))) := Lib.hid (by
    have h9 := hg3.out
    rw [HCU.out, HCS.out, splice_rep (Nat.zero_le n) j0 (by have := HJ0.out; omega), Nat.zero_add] at h9
    exact h9)
  rw [HCL.out]
  clear hg3 hb3
  have hj1 : j0 ≤ n := by have := HJ0.out; omega
  have hj2 : j0 = 0 → n = 0 := by have := HJ0.out; omega
  go_wp2_with fail
  go_loopw [8] (fun iv wr => ∃ k : Nat, k ≤ n ∧ (k = 0 → n = 0) ∧ iv = .int .i64 k ∧ Hid (wr.heap[G]? = some (.cells ((List.replicate k x ++ List.replicate (n - k) (0 : Int)).map (Value.int .i64)).toArray 3 (0, 0))) ∧ Hid (Below w.heap.size w wr)) (fun iv _ => n - (intOf iv).toNat)
  case atStart => exact ⟨j0, hj1, hj2, rfl, HT3, HZ3⟩
  case round =>
    obtain ⟨k, hk, hk0, rfl, hT, hZ⟩ := hrel
    obtain ⟨wo, rfl⟩ : ∃ wo : World, wo = wr := ⟨_, rfl⟩
    clear HCU HCS HCL HCUL HC HZ2 HT2 HZ3 HT3 hj1 hj2 HJ0
    by_cases hin : k < n
    · have t3 : decide ((k : Int) < (n : Int)) = true := by simp; omega
      have t4 : decide ((k : Int) ≤ (n : Int)) = true := by simp; omega
      have t5 : ¬ n = k := by omega
      obtain ⟨cur2, hcur2⟩ : ∃ cur, cur = (List.replicate k x ++ List.replicate (n - k) (0 : Int)).map (Value.int .i64) := ⟨_, rfl⟩
      have HT5 : Hid (wo.heap[G]? = some (.cells cur2.toArray 3 (0, 0))) := Lib.hid (by rw [hcur2]; exact hT.out)
      obtain ⟨j, hj⟩ : ∃ j, j = min k (n - k) := ⟨_, rfl⟩
      obtain ⟨cs2, hcs2⟩ : ∃ cs, cs = List.replicate j (Value.int .i64 x) := ⟨_, rfl⟩
      have HCU2 := Lib.hid hcur2
      have HCS2 := Lib.hid hcs2
      have HJ := Lib.hid hj
      have HCL2 : Hid (cs2.length = j) := Lib.hid (by rw [hcs2]; simp)
      have HCUL2 : Hid (cur2.length = n) := Lib.hid (by rw [hcur2]; simp; omega)
      clear hcur2 hcs2 hj hT
      have HPOS : Hid (∀ i v, cs2[i]? = some v → wo.drew.cell? ((⟨G, 0, none⟩ : Addr).add i) = some v) := Lib.hid (fun i v hv => by
        rw [HCS2.out, List.getElem?_replicate] at hv
        split at hv
        · rename_i hij
          cases hv
          have h9 : j ≤ k := by rw [HJ.out]; exact Nat.min_le_left _ _
          rw [Addr.add_lit, cell_of_row wo.drew _ _ _ _ _ HT5.out, HCU2.out, List.getElem?_toArray, List.getElem?_map, List.getElem?_append_left (by simp; omega), List.getElem?_replicate, if_pos (by omega)]
          rfl
        · cases hv)
      go_wp2_with fail
      go_region_law (
        (refine step_copy_splice rfl (.tmp 41) (.tmp 44) 23 23 rfl 3 Try.underlying23 (by kernel_rfl) (some ⟨G, k, none⟩) (some ⟨G, 0, none⟩) (n - k) (n - k) k n (by go_simp) (by go_simp) G k cur2 3 HT5.out cs2 (HCL2.out.trans HJ.out) (fun _ => ⟨rfl, _, rfl, HPOS.out⟩) (by rw [HCL2.out, HCUL2.out]; have := HJ.out; omega) (fun v hv => by rw [HCS2.out] at hv; rw [List.eq_of_mem_replicate hv]; rfl) w.heap.size w (by exact below_drewN hZ.out 1) (by rw [HG.out]; exact Nat.le_refl _) ?_; intro w4 hg4 hb4))
      have h9 : k + j ≤ n := by rw [HJ.out]; have := Nat.min_le_right k (n - k); omega
      have h8 : 0 < j := by rw [HJ.out]; exact Nat.lt_min.2 ⟨by omega, by omega⟩
      have HT9 : Hid (w4.heap[G]? = some (.cells ((List.replicate (k + j) x ++ List.replicate (n - (k + j)) (0 : Int)).map (Value.int .i64)).toArray 3 (0, 0))) := Lib.hid (by
        have h7 := hg4.out
        rw [HCU2.out, HCS2.out, splice_rep (Nat.le_of_lt hin) j h9] at h7
        exact h7)
      have HZ9 : Hid (Below w.heap.size w w4) := Lib.hid hb4
      rw [HCL2.out]
      clear hg4 hb4 HPOS HT5 HCU2 HCS2 HCL2 HCUL2 HJ
      go_wp2_with fail
      simp only [Act.put, List.getElem_toArray, List.getElem_cons_zero, List.getElem_cons_succ, List.setIfInBounds_toArray, List.set_cons_zero, List.set_cons_succ]
      have e9 : IntKind.i64.wrap ((k : Int) + (j : Int)) = ((k + j : Nat) : Int) := by rw [IntWalk.i64_in ((k : Int) + (j : Int)) (by omega)]; omega
      rw [e9]
      go_roundw
      case rel => exact ⟨k + j, h9, by omega, rfl, HT9, HZ9⟩
      case measure => simp [intOf]; omega
    · have t3 : decide ((k : Int) < (n : Int)) = false := by simp; omega
      have HT9 : Hid (BlkI wo G (List.replicate n x)) := Lib.hid (by
        have h7 := hT.out
        rw [show k = n by omega, Nat.sub_self] at h7
        rw [show List.replicate 0 (0 : Int) = [] from rfl, List.append_nil] at h7
        exact h7)
      go_wp2_with fail
      go_ret
      exact ⟨G, rfl, by rw [HG.out]; exact Nat.le_refl _, HT9.out, hZ.out⟩
set_option maxRecDepth 8000 in
theorem nothing_w {w : World} {n : Nat} (hn : n ≤ 8) :
    Calls Try.prog 51 #[.int .i64 (n : Nat)] w fun e w' => ∃ B, e = .returned (.slice (some ⟨B, 0, none⟩) n n) ∧ w.heap.size ≤ B ∧ BlkI w' B (List.replicate n (-1)) ∧ Below w.heap.size w w' := by
  obtain ⟨w1, hw1⟩ : ∃ w1, w1 = w.alloc (Obj.cells #[Value.int .i64 (-1)] 3) := ⟨_, rfl⟩
  have HB1 : Hid (Below w.heap.size w w1) := Lib.hid (by rw [hw1]; exact (Below.refl _ _).alloc (Nat.le_refl _) _)
  have HX1 : w1.heap[w.heap.size]? = some (.cells #[Value.int .i64 (-1)] 3 (0, 0)) := by rw [hw1]; exact heap_alloc_new w _
  have HSZ : Hid (w.heap.size ≤ w1.heap.size) := Lib.hid (by rw [hw1]; simp)
  have KR := Lib.hid (repeat_w (w := w1) (B0 := w.heap.size) (n := n) (x := -1) (by rw [cell_of_row _ _ _ _ _ _ HX1]; rfl) hn)
  have HW1 := Lib.hid hw1.symm
  clear hw1 HX1
  go_enter Try.func51, Try.ntmps51
  go_wp2_with fail
  rw [HW1.out]
  refine KR.out.mono ?_
  rintro en2 w2 ⟨B, rfl, hB, hT, hb⟩
  have HT := Lib.hid hT
  have HB := Lib.hid hb
  have HL := Lib.hid hB
  clear hT hb hB
  go_wp2_with fail
  go_ret
  exact ⟨B, rfl, Nat.le_trans HSZ.out HL.out, HT.out, below_trans HB1.out HB.out⟩
end Go.Proofs.Ytomnnickiljkgaa
