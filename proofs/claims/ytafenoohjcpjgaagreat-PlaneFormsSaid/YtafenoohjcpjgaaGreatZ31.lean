/- Several texts in one: Yv. -/
import Derived.Test.YtafenoohjcpjgaaGreatZ30
import Derived.Test.YtafenoohjcpjgaaGreatZ29
import Derived.Deep.RegionHeld3
import Derived.Deep.DrawnRows
/- A row of one variable, of the reference. -/
namespace Go.Proofs.YtafenoohjcpjgaaGreat
open Go.RowKit
attribute [local go_sem ↓] Go.wp_at_zero Go.wp_at_succ

theorem set0_row {w : World} {B : Nat} {x y z u t v : Value} {ty : TypeId} (h : w.heap[B]? = some (.cells #[x, y, z, u, t] ty (0, 0))) :
    (w.setCell ⟨B, 0, none⟩ v).heap[B]? = some (.cells #[v, y, z, u, t] ty (0, 0)) := heap_setCell_same _ _ 0 _ _ _ h
theorem setk_only (w : World) (B k : Nat) (v : Value) : Only B w (w.setCell ⟨B, k, none⟩ v) := (Only.refl B w).setCell k v
theorem row_nou {a1 a2 a3 : Option Addr} {n1 c1 n2 c2 n3 c3 : Nat} {z : Int} {b : Bool} : ∀ (j k : Nat), (#[Value.slice a1 n1 c1, Value.int .i64 z, Value.bool b, Value.slice a2 n2 c2, Value.slice a3 n3 c3] : Array Value)[j]? ≠ some (U k) := by
  intro j k h
  rcases j with _ | _ | _ | _ | _ | j <;> simp [U] at h
theorem LFs.other {N : Nat} {w w' : World} {base : Nat} {v : Value} {qs : List Rat} {B : Nat} {cs : Array Value} {t : TypeId} {fr : Nat × Nat} (h : LFs N w base v qs) (hB : w.heap[B]? = some (.cells cs t fr)) (hcs : ∀ (j k : Nat), cs[j]? ≠ some (U k)) (ho : Only B w w') (hlow : B < base) : LFs N w' base v qs :=
  h.grown (only_grown ho) (fun g hg e => by have := (h.lt g hg).1; cases e; omega) (fun _ _ _ _ _ _ _ _ hf => few_other hf hB hcs ho)
theorem LFs.clean9 {N : Nat} {w : World} {base : Nat} {v : Value} {qs : List Rat} (h : LFs N w base v qs) : Clean w v := h.elim fun _ h => h.2.1
theorem unitQ_take {n v j : Nat} (hj : j < n) : (unitQ n v).take j ++ [if j = v then (1 : Rat) else 0] = (unitQ n v).take (j + 1) ∧ ((unitQ n v).take j ++ [if j = v then (1 : Rat) else 0]).length = j + 1 := by
  have hl : j < (unitQ n v).length := by rw [unitQ_len]; exact hj
  refine ⟨?_, by rw [List.length_append, List.length_take, unitQ_len]; simp; omega⟩
  rw [List.take_succ_eq_append_getElem hl]
  congr 2
  simp [unitQ]
theorem len_one9 : lenQ (1 : Rat) ≤ 2 := by decide +kernel
theorem len_nought9 : lenQ (0 : Rat) ≤ 2 := by decide +kernel
set_option maxRecDepth 100000 in
set_option maxHeartbeats 4000000 in
set_option linter.unusedSimpArgs false in
theorem unit_w {M : Nat} {w : World} {n v : Nat} {s b : Int} {q : Rat} (hn : n ≤ 1000) (hq : makeQ b 1 = q) (h1 : -9223372036854775808 ≤ b) (h2 : b ≤ 9223372036854775807) (hM : 2 ≤ M) (hM9 : M ≤ 4096) (hl : lenQ q ≤ M) :
    Calls Tryz.prog 34 #[.int .i64 (n : Nat), .int .i64 (v : Nat), .int .i64 s, .int .i64 b] w fun e w' => (∃ base ar rc bb a1 n1 c1 a2 n2 c2, e = .returned (.agg #[.slice ar n rc, .int .i64 s, .bool bb, .slice a1 n1 c1, .slice a2 n2 c2]) ∧ LFs M w' base (.slice ar n rc) (unitQ n v) ∧ FewF M w' (.agg #[.bool bb, .slice a1 n1 c1, .slice a2 n2 c2]) q ∧ w.heap.size ≤ base) ∧ Below w.heap.size w w' := by
  obtain ⟨w1, hw1⟩ : ∃ w1, w1 = w.alloc (Obj.cells #[Value.slice none 0 0, Value.int .i64 0, Value.bool false, Value.slice none 0 0, Value.slice none 0 0] 45) := ⟨_, rfl⟩
  have HB1 : Hid (Below w.heap.size w w1) := Lib.hid (by rw [hw1]; exact (Below.refl _ _).alloc (Nat.le_refl _) _)
  have HR1 : Hid (w1.heap[w.heap.size]? = some (.cells #[Value.slice none 0 0, Value.int .i64 0, Value.bool false, Value.slice none 0 0, Value.slice none 0 0] 45 (0, 0))) := Lib.hid (by rw [hw1]; exact heap_alloc_new w _)
  have HW1 := Lib.hid hw1.symm
  have KI := Lib.hid (fun w' => wholeN_w (w := w') hq h1 h2)
  have HLB := Lib.hid hl
  have HM9 := Lib.hid hM9
  have HW0L : Hid (lenQ (0 : Rat) ≤ M) := Lib.hid (by have := len_nought9; omega)
  have HW1L : Hid (lenQ (1 : Rat) ≤ M) := Lib.hid (by have := len_one9; omega)
  have KW0 := Lib.hid (fun w' => wholeN_w (w := w') zero_make (by decide) (by decide))
  have KW1 := Lib.hid (fun w' => wholeN_w (w := w') oneQ_make (by decide) (by decide))
  clear hw1 hq hl hM hM9
  go_enter Tryz.func34, Tryz.ntmps34
  go_wp2_with fail
  rw [HW1.out]
  refine (KI.out _).mono ?_
  rintro en3 w3 ⟨⟨v3, rfl, f3⟩, hb3⟩
  have f3 := fv_few9 f3 HLB.out HM9.out
  obtain ⟨a3, n3, c3, i3, j3, k3, bq, hq3⟩ := few_form f3
  subst hq3
  have HF3 := Lib.hid f3
  have HZ3 := Lib.hid hb3
  clear f3 hb3
  go_wp2_with ((with_reducible refine at_store ?_); refine wpList_store_var rfl _ _ _ rfl w3.heap.size rfl _ rfl _ _ (heap_alloc_new _ _) irow rfl row_one ?_; intro w4 h4 hon4; refine halt ?_)
  have hb4 : Below w3.heap.size w3 w4 := below_only ((Below.refl _ _).alloc (Nat.le_refl _) _) hon4 (Nat.le_refl _)
  have HX4 := Lib.hid h4
  have HF4 := Lib.hid (HF3.out.below hb4)
  have HB14 := Lib.hid (below_trans HZ3.out hb4)
  have HW14 : Hid (w1.heap.size ≤ w4.heap.size) := Lib.hid HB14.out.size
  obtain ⟨BX, hBX⟩ : ∃ x, x = w3.heap.size := ⟨_, rfl⟩
  have HXB : Hid (w1.heap.size ≤ BX) := Lib.hid (by rw [hBX]; exact HZ3.out.size)
  rw [← hBX] at HX4 ⊢
  have HXL : Hid (BX < w4.heap.size) := Lib.hid (lt_of_block HX4.out)
  clear h4 hon4 hb4 hBX
  refine go_on ?_
  go_wp2_with fail
  go_loopw [10] (fun jv wr => ∃ (j : Nat) (oa : Option Addr) (oc : Nat), j ≤ n ∧ jv = .int .i64 j ∧ Hid (wr.heap[BX]? = some (.cells #[Value.slice oa j oc, Value.int .i64 s, Value.bool bq, Value.slice a3 n3 c3, Value.slice i3 j3 k3] 45 (0, 0))) ∧ Hid (LFs M wr w4.heap.size (.slice oa j oc) ((unitQ n v).take j)) ∧ Hid (FewF M wr (.agg #[.bool bq, .slice a3 n3 c3, .slice i3 j3 k3]) q) ∧ Hid (Below w1.heap.size w1 wr) ∧ Hid (w4.heap.size ≤ wr.heap.size)) (fun jv _ => n - (intOf jv).toNat)
  case atStart => exact ⟨0, none, 0, Nat.zero_le _, rfl, HX4, Lib.hid (LFs.nil _ _ _), HF4, HB14, Lib.hid (Nat.le_refl _)⟩
  case round =>
    obtain ⟨j, oa, oc, hj, rfl, hG, hO, hF, hZ, hsz⟩ := hrel
    obtain ⟨wo, rfl⟩ : ∃ wo : World, wo = wr := ⟨_, rfl⟩
    by_cases hin : j < n
    · have t0 : decide ((j : Int) < (n : Int)) = true := by simp; omega
      have RY := Lib.hid (cells_later hG.out)
      have HTK := Lib.hid (unitQ_take (v := v) hin)
      have hz : Below wo.heap.size wo wo.drew := below_drewN (Below.refl _ _) 1
      by_cases hjv : j = v
      · have t1 : ((j : Int) == (v : Int)) = true := by simp; omega
        have t2 : decide ((j : Int) = (v : Int)) = true := by simp; omega
        rw [if_pos hjv] at HTK
        clear hjv
        go_wp2_with fail
        refine wp_region_to 7 (fun w' => w'.cell? ⟨BX, 0, none⟩ = some (.slice oa j oc)) (by kernel_rfl) (by (try dsimp only); exact RY.out 0 _ rfl _ (by assumption)) (fun hHeld => ?_)
        refine to_take (i := 0) (oi := _) (v := ?_) rfl (by kernel_rfl) (by kernel_rfl) (by kernel_rfl) (fun _ _ _ h => h) (by kernel_rfl) (by decide) (Or.inl ⟨by kernel_rfl, ?_⟩) (by assumption) ?_
        rotate_left
        · intro w hSw
          (try dsimp only at hSw)
          go_simp
          try with_reducible rfl
        try simp only [Act.put, List.getElem_toArray, List.getElem_cons_zero, List.getElem_cons_succ, List.setIfInBounds_toArray, List.set_cons_zero, List.set_cons_succ]
        refine to_take (i := 1) (oi := _) (v := ?_) rfl (by kernel_rfl) (by kernel_rfl) (by kernel_rfl) (fun _ _ _ h => h) (by kernel_rfl) (by decide) (Or.inl ⟨by kernel_rfl, ?_⟩) (by assumption) ?_
        rotate_left
        · intro w hSw
          (try dsimp only at hSw)
          go_simp
          try with_reducible rfl
        try simp only [Act.put, List.getElem_toArray, List.getElem_cons_zero, List.getElem_cons_succ, List.setIfInBounds_toArray, List.set_cons_zero, List.set_cons_succ]
        refine to_take (i := 2) (oi := _) (v := ?_) rfl (by kernel_rfl) (by kernel_rfl) (by kernel_rfl) (fun _ _ _ h => h) (by kernel_rfl) (by decide) (Or.inl ⟨by kernel_rfl, ?_⟩) (by assumption) ?_
        rotate_left
        · intro w hSw
          (try dsimp only at hSw)
          go_simp
          try with_reducible rfl
        try simp only [Act.put, List.getElem_toArray, List.getElem_cons_zero, List.getElem_cons_succ, List.setIfInBounds_toArray, List.set_cons_zero, List.set_cons_succ]
        refine to_ready (rs := [3]) (by kernel_rfl) (by simp) (AllTo.cons (o := _) rfl (fun K hK => ?_) AllTo.nil)
        go_simp
        refine (KW1.out _).mono ?_
        rintro en7 w7 ⟨⟨v7, rfl, f7⟩, hb7⟩
        have f7 := fv_few9 f7 HW1L.out HM9.out
        obtain ⟨a7, n7, c7, i7, j7, k7, bu, hq7⟩ := few_form f7
        subst hq7
        have hz := below_trans hz hb7
        try go_wp2_with fail
        refine hK.out _ _ (fun _ => ?_) (fun hHeld => ?_)
        · (try dsimp only); exact RY.out 0 _ rfl _ (by assumption)
        replace hHeld := hHeld (by decide)
        clear hK K
        try simp only [Act.put, List.getElem_toArray, List.getElem_cons_zero, List.getElem_cons_succ, List.setIfInBounds_toArray, List.set_cons_zero, List.set_cons_succ]
        refine to_ready (rs := [4]) (by kernel_rfl) (by simp) (AllTo.cons (o := _) rfl (fun K hK => ?_) AllTo.nil)
        go_simp
        obtain ⟨w8, hw8⟩ : ∃ w', w' = w7.alloc (Obj.cells #[Value.bool bu, Value.slice a7 n7 c7, Value.slice i7 j7 k7] 43) := ⟨_, rfl⟩
        have hb8 : Below w7.heap.size w7 w8 := by rw [hw8]; exact (Below.refl _ _).alloc (Nat.le_refl _) _
        have hr8 : w8.heap[w7.heap.size]? = some (.cells #[Value.bool bu, Value.slice a7 n7 c7, Value.slice i7 j7 k7] 43 (0, 0)) := by rw [hw8]; exact heap_alloc_new w7 _
        rw [← hw8]
        clear hw8
        have hz := below_trans hz hb8
        have f8 := f7.below hb8
        refine hK.out _ _ (fun _ => ?_) (fun hHeld => ?_)
        · (try dsimp only); exact RY.out 0 _ rfl _ (by assumption)
        replace hHeld := hHeld (by decide)
        clear hK K
        try simp only [Act.put, List.getElem_toArray, List.getElem_cons_zero, List.getElem_cons_succ, List.setIfInBounds_toArray, List.set_cons_zero, List.set_cons_succ]
        refine to_ready (rs := [5]) (by kernel_rfl) (by simp) (AllTo.cons (o := _) rfl (fun K hK => ?_) AllTo.nil)
        rw [if_pos (by kernel_rfl)]
        have HO8 := hO.out.below hz
        have hlt8 := hO.out.lt
        refine oper_push_frac _ _ rfl M w4.heap.size (Value.slice oa j oc) ((unitQ n v).take j) rfl HO8 w7.heap.size 1 bu a7 i7 n7 c7 j7 k7 _ rfl hr8 f8 (by rw [List.length_take]; have := unitQ_len n v; omega) (Nat.le_trans hsz.out hz.size) ?_
        intro v9 w9 hown9 hg9 hbel9 hat9 hold9
        have hB9 : Below w4.heap.size wo w9 := hbel9 wo (hz.mono hsz.out)
        have HX9 := (hB9.block _ HXL.out).trans hG.out
        obtain ⟨na, nc, hv9⟩ := hown9.form
        rw [HTK.out.1] at hown9
        rw [HTK.out.2] at hv9
        subst hv9
        have HF9 := few_grown (hF.out.below hz) HO8.clean9 hg9
        have HZ9 : Below w1.heap.size w1 w9 := hZ.out.trans (hB9.mono HW14.out)
        refine hK.out _ _ (fun _ => ?_) (fun hHeld => ?_)
        · (try dsimp only); exact cells_later HX9 0 _ rfl _ (Below.refl _ _)
        replace hHeld := hHeld (by decide)
        clear hK K
        try simp only [Act.put, List.getElem_toArray, List.getElem_cons_zero, List.getElem_cons_succ, List.setIfInBounds_toArray, List.set_cons_zero, List.set_cons_succ]
        refine to_take (i := 6) (oi := _) (v := ?_) rfl (by kernel_rfl) (by kernel_rfl) (by kernel_rfl) (fun _ _ _ h => h) (by kernel_rfl) (by decide) (Or.inl ⟨by kernel_rfl, ?_⟩) (by assumption) ?_
        rotate_left
        · intro w hSw
          (try dsimp only at hSw)
          go_simp
          try with_reducible rfl
        try simp only [Act.put, List.getElem_toArray, List.getElem_cons_zero, List.getElem_cons_succ, List.setIfInBounds_toArray, List.set_cons_zero, List.set_cons_succ]
        refine to_ready (rs := [7]) (by kernel_rfl) (by simp) (AllTo.cons (o := _) rfl (fun K hK => ?_) AllTo.nil)
        have g3 := cells_later HX9 0 _ rfl _ (Below.refl _ _)
        have g4 := frozen_of_row _ _ 0 _ _ HX9
        go_simp
        refine hK.out _ _ (fun h => absurd rfl h) (fun _ => ?_)
        clear hK K
        try simp only [Act.put, List.getElem_toArray, List.getElem_cons_zero, List.getElem_cons_succ, List.setIfInBounds_toArray, List.set_cons_zero, List.set_cons_succ]
        refine to_done (by kernel_rfl) ?_ _
        have HON := setk_only w9 BX 0 (Value.slice na (j + 1) nc)
        have HG10 := Lib.hid (set0_row HX9 (v := Value.slice na (j + 1) nc))
        have HO10 := Lib.hid (hown9.other HX9 row_nou HON HXL.out)
        have HF10 := Lib.hid (few_other HF9 HX9 row_nou HON)
        have HZ10 := Lib.hid (below_only HZ9 HON HXB.out)
        have HS10 : Hid (w4.heap.size ≤ (w9.setCell ⟨BX, 0, none⟩ (Value.slice na (j + 1) nc)).heap.size) := Lib.hid (by rw [HON.size]; exact Nat.le_trans hsz.out hB9.size)
        clear HON HX9 HF9 HZ9 hB9 hown9
        go_wp2_with fail
        go_roundw
        case rel => exact ⟨j + 1, _, _, by omega, by go_num, HG10, HO10, HF10, HZ10, HS10⟩
        case measure => simp [intOf]; omega
      · have t1 : ((j : Int) == (v : Int)) = false := by simp; omega
        have t2 : decide ((j : Int) = (v : Int)) = false := by simp; omega
        rw [if_neg hjv] at HTK
        clear hjv
        go_wp2_with fail
        refine wp_region_to 7 (fun w' => w'.cell? ⟨BX, 0, none⟩ = some (.slice oa j oc)) (by kernel_rfl) (by (try dsimp only); exact RY.out 0 _ rfl _ (by assumption)) (fun hHeld => ?_)
        refine to_take (i := 0) (oi := _) (v := ?_) rfl (by kernel_rfl) (by kernel_rfl) (by kernel_rfl) (fun _ _ _ h => h) (by kernel_rfl) (by decide) (Or.inl ⟨by kernel_rfl, ?_⟩) (by assumption) ?_
        rotate_left
        · intro w hSw
          (try dsimp only at hSw)
          go_simp
          try with_reducible rfl
        try simp only [Act.put, List.getElem_toArray, List.getElem_cons_zero, List.getElem_cons_succ, List.setIfInBounds_toArray, List.set_cons_zero, List.set_cons_succ]
        refine to_take (i := 1) (oi := _) (v := ?_) rfl (by kernel_rfl) (by kernel_rfl) (by kernel_rfl) (fun _ _ _ h => h) (by kernel_rfl) (by decide) (Or.inl ⟨by kernel_rfl, ?_⟩) (by assumption) ?_
        rotate_left
        · intro w hSw
          (try dsimp only at hSw)
          go_simp
          try with_reducible rfl
        try simp only [Act.put, List.getElem_toArray, List.getElem_cons_zero, List.getElem_cons_succ, List.setIfInBounds_toArray, List.set_cons_zero, List.set_cons_succ]
        refine to_take (i := 2) (oi := _) (v := ?_) rfl (by kernel_rfl) (by kernel_rfl) (by kernel_rfl) (fun _ _ _ h => h) (by kernel_rfl) (by decide) (Or.inl ⟨by kernel_rfl, ?_⟩) (by assumption) ?_
        rotate_left
        · intro w hSw
          (try dsimp only at hSw)
          go_simp
          try with_reducible rfl
        try simp only [Act.put, List.getElem_toArray, List.getElem_cons_zero, List.getElem_cons_succ, List.setIfInBounds_toArray, List.set_cons_zero, List.set_cons_succ]
        refine to_ready (rs := [3]) (by kernel_rfl) (by simp) (AllTo.cons (o := _) rfl (fun K hK => ?_) AllTo.nil)
        go_simp
        refine (KW0.out _).mono ?_
        rintro en7 w7 ⟨⟨v7, rfl, f7⟩, hb7⟩
        have f7 := fv_few9 f7 HW0L.out HM9.out
        obtain ⟨a7, n7, c7, i7, j7, k7, bu, hq7⟩ := few_form f7
        subst hq7
        have hz := below_trans hz hb7
        try go_wp2_with fail
        refine hK.out _ _ (fun _ => ?_) (fun hHeld => ?_)
        · (try dsimp only); exact RY.out 0 _ rfl _ (by assumption)
        replace hHeld := hHeld (by decide)
        clear hK K
        try simp only [Act.put, List.getElem_toArray, List.getElem_cons_zero, List.getElem_cons_succ, List.setIfInBounds_toArray, List.set_cons_zero, List.set_cons_succ]
        refine to_ready (rs := [4]) (by kernel_rfl) (by simp) (AllTo.cons (o := _) rfl (fun K hK => ?_) AllTo.nil)
        go_simp
        obtain ⟨w8, hw8⟩ : ∃ w', w' = w7.alloc (Obj.cells #[Value.bool bu, Value.slice a7 n7 c7, Value.slice i7 j7 k7] 43) := ⟨_, rfl⟩
        have hb8 : Below w7.heap.size w7 w8 := by rw [hw8]; exact (Below.refl _ _).alloc (Nat.le_refl _) _
        have hr8 : w8.heap[w7.heap.size]? = some (.cells #[Value.bool bu, Value.slice a7 n7 c7, Value.slice i7 j7 k7] 43 (0, 0)) := by rw [hw8]; exact heap_alloc_new w7 _
        rw [← hw8]
        clear hw8
        have hz := below_trans hz hb8
        have f8 := f7.below hb8
        refine hK.out _ _ (fun _ => ?_) (fun hHeld => ?_)
        · (try dsimp only); exact RY.out 0 _ rfl _ (by assumption)
        replace hHeld := hHeld (by decide)
        clear hK K
        try simp only [Act.put, List.getElem_toArray, List.getElem_cons_zero, List.getElem_cons_succ, List.setIfInBounds_toArray, List.set_cons_zero, List.set_cons_succ]
        refine to_ready (rs := [5]) (by kernel_rfl) (by simp) (AllTo.cons (o := _) rfl (fun K hK => ?_) AllTo.nil)
        rw [if_pos (by kernel_rfl)]
        have HO8 := hO.out.below hz
        have hlt8 := hO.out.lt
        refine oper_push_frac _ _ rfl M w4.heap.size (Value.slice oa j oc) ((unitQ n v).take j) rfl HO8 w7.heap.size 1 bu a7 i7 n7 c7 j7 k7 _ rfl hr8 f8 (by rw [List.length_take]; have := unitQ_len n v; omega) (Nat.le_trans hsz.out hz.size) ?_
        intro v9 w9 hown9 hg9 hbel9 hat9 hold9
        have hB9 : Below w4.heap.size wo w9 := hbel9 wo (hz.mono hsz.out)
        have HX9 := (hB9.block _ HXL.out).trans hG.out
        obtain ⟨na, nc, hv9⟩ := hown9.form
        rw [HTK.out.1] at hown9
        rw [HTK.out.2] at hv9
        subst hv9
        have HF9 := few_grown (hF.out.below hz) HO8.clean9 hg9
        have HZ9 : Below w1.heap.size w1 w9 := hZ.out.trans (hB9.mono HW14.out)
        refine hK.out _ _ (fun _ => ?_) (fun hHeld => ?_)
        · (try dsimp only); exact cells_later HX9 0 _ rfl _ (Below.refl _ _)
        replace hHeld := hHeld (by decide)
        clear hK K
        try simp only [Act.put, List.getElem_toArray, List.getElem_cons_zero, List.getElem_cons_succ, List.setIfInBounds_toArray, List.set_cons_zero, List.set_cons_succ]
        refine to_take (i := 6) (oi := _) (v := ?_) rfl (by kernel_rfl) (by kernel_rfl) (by kernel_rfl) (fun _ _ _ h => h) (by kernel_rfl) (by decide) (Or.inl ⟨by kernel_rfl, ?_⟩) (by assumption) ?_
        rotate_left
        · intro w hSw
          (try dsimp only at hSw)
          go_simp
          try with_reducible rfl
        try simp only [Act.put, List.getElem_toArray, List.getElem_cons_zero, List.getElem_cons_succ, List.setIfInBounds_toArray, List.set_cons_zero, List.set_cons_succ]
        refine to_ready (rs := [7]) (by kernel_rfl) (by simp) (AllTo.cons (o := _) rfl (fun K hK => ?_) AllTo.nil)
        have g3 := cells_later HX9 0 _ rfl _ (Below.refl _ _)
        have g4 := frozen_of_row _ _ 0 _ _ HX9
        go_simp
        refine hK.out _ _ (fun h => absurd rfl h) (fun _ => ?_)
        clear hK K
        try simp only [Act.put, List.getElem_toArray, List.getElem_cons_zero, List.getElem_cons_succ, List.setIfInBounds_toArray, List.set_cons_zero, List.set_cons_succ]
        refine to_done (by kernel_rfl) ?_ _
        have HON := setk_only w9 BX 0 (Value.slice na (j + 1) nc)
        have HG10 := Lib.hid (set0_row HX9 (v := Value.slice na (j + 1) nc))
        have HO10 := Lib.hid (hown9.other HX9 row_nou HON HXL.out)
        have HF10 := Lib.hid (few_other HF9 HX9 row_nou HON)
        have HZ10 := Lib.hid (below_only HZ9 HON HXB.out)
        have HS10 : Hid (w4.heap.size ≤ (w9.setCell ⟨BX, 0, none⟩ (Value.slice na (j + 1) nc)).heap.size) := Lib.hid (by rw [HON.size]; exact Nat.le_trans hsz.out hB9.size)
        clear HON HX9 HF9 HZ9 hB9 hown9
        go_wp2_with fail
        go_roundw
        case rel => exact ⟨j + 1, _, _, by omega, by go_num, HG10, HO10, HF10, HZ10, HS10⟩
        case measure => simp [intOf]; omega
    · have t0 : decide ((j : Int) < (n : Int)) = false := by simp; omega
      obtain rfl : j = n := by omega
      have x0 := cells_later hG.out 0 _ rfl _ (Below.refl _ _)
      have x1 := cells_later hG.out 1 _ rfl _ (Below.refl _ _)
      have x2 := cells_later hG.out 2 _ rfl _ (Below.refl _ _)
      have x3 := cells_later hG.out 3 _ rfl _ (Below.refl _ _)
      have x4 := cells_later hG.out 4 _ rfl _ (Below.refl _ _)
      have HR9 := (hZ.out.block _ (lt_of_block HR1.out)).trans HR1.out
      have hlow : w.heap.size < w4.heap.size := Nat.lt_of_lt_of_le (lt_of_block HR1.out) HW14.out
      go_wp2_with ((with_reducible refine at_store ?_); refine wpList_store_var rfl _ _ _ rfl w.heap.size rfl _ rfl _ _ HR9 irow rfl row_one ?_; intro w10 h10 hon10; refine halt ?_)
      refine go_on ?_
      have HL10 := hO.out.other HR9 row_nou hon10 hlow
      rw [List.take_of_length_le (by rw [unitQ_len]; exact Nat.le_refl _)] at HL10
      have HF10 := few_other hF.out HR9 row_nou hon10
      clear x0 x1 x2 x3 x4
      go_wp2_with fail
      exact bodyPost_ret (results_cell_row rfl _ _ w.heap.size _ _ _ _ rfl h10 Tryz.underlying45 rfl irow) rfl ⟨⟨_, _, _, _, _, _, _, _, _, _, rfl, HL10, HF10, Nat.le_of_lt hlow⟩, below_only (below_trans HB1.out hZ.out) hon10 (Nat.le_refl _)⟩
end Go.Proofs.YtafenoohjcpjgaaGreat
