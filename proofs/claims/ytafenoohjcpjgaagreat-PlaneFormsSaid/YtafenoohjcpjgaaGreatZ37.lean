/- Several texts in one: Yh. -/
import Derived.Test.YtafenoohjcpjgaaGreatZ35
import Derived.Test.YtafenoohjcpjgaaGreatZ36
import Derived.Deep.RegionHeld3
import Derived.Deep.DrawnRows
/- Dual of the reference. -/
namespace Go.Proofs.YtafenoohjcpjgaaGreat
open Go.RowKit
attribute [local go_sem ↓] Go.wp_at_zero Go.wp_at_succ

theorem LFs.keepG {N : Nat} {w w' : World} {base : Nat} {v u : Value} {qs : List Rat} (h : LFs N w base v qs) (hv : Clean w u) (hg : w.grownBy w' u.ownBlock) (hne : ∀ g, v.ownBlock = some g → u.ownBlock ≠ some g) : LFs N w' base v qs :=
  h.grown hg hne (fun _ _ _ _ _ _ _ _ hf => few_grown hf hv hg)
theorem LBo.blk {w : World} {base : Nat} {v : Value} {bs : List Bool} (h : LBo w base v bs) : ∀ g, v.ownBlock = some g → ∃ cs, w.heap[g]? = some (.cells cs 4 (0, 0)) := by
  intro g hg
  rcases h.1.2 with ⟨rfl, -⟩ | ⟨g', cap', cur', rfl, -, hh, -⟩
  · simp [Value.ownBlock] at hg
  · have h9 : some g' = some g := hg
    obtain rfl := Option.some.inj h9
    exact ⟨cur', hh⟩
theorem LFs.blk {N : Nat} {w : World} {base : Nat} {v : Value} {qs : List Rat} (h : LFs N w base v qs) : ∀ g, v.ownBlock = some g → ∃ cs, w.heap[g]? = some (.cells cs 43 (0, 0)) := rkF_blk ⟨_, h⟩
theorem bo_fs {N : Nat} {w : World} {b1 b2 : Nat} {v u : Value} {bs : List Bool} {qs : List Rat} (h : LBo w b1 v bs) (k : LFs N w b2 u qs) : ∀ g, u.ownBlock = some g → v.ownBlock ≠ some g := by
  intro g hg e
  obtain ⟨c1, h1⟩ := h.blk g e
  obtain ⟨c2, h2⟩ := k.blk g hg
  rw [h1] at h2
  simp at h2
theorem neg_take {α : Type} {f : α → Rat} {l : List α} {i : Nat} {r : α} (h : l[i]? = some r) : (l.map f).take i ++ [f r] = (l.map f).take (i + 1) ∧ ((l.map f).take i ++ [f r]).length = i + 1 := by
  obtain ⟨hi, h9⟩ := List.getElem?_eq_some_iff.1 h
  refine ⟨?_, by rw [List.length_append, List.length_take, List.length_map]; simp; omega⟩
  rw [List.take_succ_eq_append_getElem (by simpa using hi)]
  simp [h9]
set_option maxRecDepth 100000 in
set_option maxHeartbeats 4000000 in
set_option linter.unusedSimpArgs false in
theorem rdual_w {N : Nat} {w : World} {v : Value} {P : Pm} (h : ProgF N w v P) (hrb : rightB2 P = true) (hN : N ≤ 500) (hv1 : P.vars ≤ 160) (hr0 : 0 < P.rows.length) (hr1 : P.rows.length ≤ 160) :
    Calls Tryz.prog 9 #[v] w fun e w' => (∃ r, e = .returned (.tuple #[r, .int .i64 0]) ∧ ProgN (rkF (2 * N + 1)) w' w.heap.size r (dualN (normP P))) ∧ Below w.heap.size w w' := by
  have HRB := Lib.hid hrb
  have HP := Lib.hid h
  have KFX := Lib.hid (fun w' (hb : Below w.heap.size w w') => rnormal_w (h.below hb) hrb hN hv1 (by omega))
  have HS := Lib.hid h.small
  have HN : Hid (N ≤ 500) := Lib.hid hN
  obtain ⟨fa, fc, ga, gc, ra, rc, rfl, -, -, hB, hG, hR⟩ := h
  have HBO := Lib.hid hB
  have HR := Lib.hid hR
  obtain ⟨z, hz⟩ : ∃ z, z = P.vars := ⟨_, rfl⟩
  obtain ⟨fn, hfn⟩ : ∃ n, n = P.free.length := ⟨_, rfl⟩
  obtain ⟨gn, hgn⟩ : ∃ n, n = P.goal.length := ⟨_, rfl⟩
  obtain ⟨rn, hrn⟩ : ∃ n, n = P.rows.length := ⟨_, rfl⟩
  rw [← hz] at HP ⊢
  rw [← hfn] at HP ⊢
  rw [← hgn] at HP hG ⊢
  rw [← hrn] at HP ⊢
  simp only [← hz, ← hfn, ← hgn, ← hrn] at KFX
  have HG := Lib.hid hG
  have HEQ := Lib.hid (And.intro hz (And.intro hfn (And.intro hgn hrn)))
  have HZF : Hid (z = (gn : Int) ∧ fn = gn ∧ 0 < gn ∧ gn ≤ 160 ∧ 0 < rn ∧ rn ≤ 160) := Lib.hid (by have := right_goal hrb; omega)
  obtain ⟨hzg, hfg, hg0, hg160, hrn0, hr160⟩ := HZF.out
  clear hN hB hR hG hz hfn hgn hrn hrb hv1 hr0 hr1
  subst hfg
  subst hzg
  obtain ⟨w1, hw1⟩ : ∃ w1, w1 = (w.alloc (Obj.cells #[Value.int .i64 (fn : Int), Value.slice fa fn fc, Value.slice ga fn gc, Value.slice ra rn rc] 26)).alloc (Obj.cells #[Value.int .i64 0, Value.slice none 0 0, Value.slice none 0 0, Value.slice none 0 0] 26) := ⟨_, rfl⟩
  have HB1 : Hid (Below w.heap.size w w1) := Lib.hid (by rw [hw1]; exact ((Below.refl _ _).alloc (Nat.le_refl _) _).alloc (by simp) _)
  have HX1 : Hid (w1.heap[w.heap.size]? = some (.cells #[Value.int .i64 (fn : Int), Value.slice fa fn fc, Value.slice ga fn gc, Value.slice ra rn rc] 26 (0, 0))) := Lib.hid (by rw [hw1]; exact heap_alloc2_old w _ _)
  have HO1 : Hid (w1.heap[w.heap.size + 1]? = some (.cells #[Value.int .i64 0, Value.slice none 0 0, Value.slice none 0 0, Value.slice none 0 0] 26 (0, 0))) := Lib.hid (by rw [hw1]; exact heap_alloc2_new w _ _)
  have HW1 := Lib.hid hw1.symm
  clear hw1
  have RX := Lib.hid (cells_later HX1.out)
  have hb1 := Below.refl w1.heap.size w1
  have x0 := RX.out 0 _ rfl _ hb1
  have x1 := RX.out 1 _ rfl _ hb1
  have x2 := RX.out 2 _ rfl _ hb1
  have x3 := RX.out 3 _ rfl _ hb1
  obtain ⟨n, hnn⟩ : ∃ n, n = normP P := ⟨_, rfl⟩
  rw [← hnn] at KFX ⊢
  have HRN9 : Hid (rightB2 n = true) := Lib.hid (by rw [hnn]; exact right_norm HRB.out)
  have HSN9 : Hid (SmallP (2 * N + 1) n) := Lib.hid (by rw [hnn]; exact HS.out.norm)
  have HNQ : Hid (n.vars = (fn : Int) ∧ n.free.length = fn ∧ n.goal.length = fn ∧ n.rows.length = rn) := Lib.hid (by
    rw [hnn]
    refine ⟨HEQ.out.1.symm, HEQ.out.2.1.symm, HEQ.out.2.2.1.symm, ?_⟩
    show (P.rows.map turnR).length = rn
    rw [List.length_map]
    exact HEQ.out.2.2.2.symm)
  clear hnn
  go_enter Tryz.func9, Tryz.ntmps9
  go_wp2_with fail
  rw [HW1.out]
  refine (KFX.out _ HB1.out).mono ?_
  rintro en3 w3 ⟨⟨r3, rfl, hn3⟩, hb3⟩
  have hpf := hn3.readF HRN9.out (by have := HNQ.out; omega)
  obtain ⟨fa', fc', ga', gc', oa, oc, mid, hq3, -, -, -, hm1, hm2, hm3, hm4⟩ := hn3
  rw [HNQ.out.1, HNQ.out.2.1, HNQ.out.2.2.1, HNQ.out.2.2.2] at hq3
  subst hq3
  obtain ⟨-, -, -, -, hBF, hGL, hRF⟩ := hpf.parts
  have HBF := Lib.hid hBF
  have HGL := Lib.hid hGL
  have HRF := Lib.hid hRF
  have HZ3 := Lib.hid hb3
  clear hBF hGL hRF hm1 hm2 hm3 hm4 hb3 hpf x0 x1 x2 x3 KFX
  go_wp2_with ((with_reducible refine at_store ?_); refine wpList_store_var rfl _ _ _ rfl w3.heap.size rfl _ rfl _ _ (heap_alloc_new _ _) info_prog9 rfl prog_one ?_; intro w4 h4 hon4; refine halt ?_)
  have hb4 : Below w3.heap.size w3 w4 := below_only ((Below.refl _ _).alloc (Nat.le_refl _) _) hon4 (Nat.le_refl _)
  obtain ⟨XN, hXN⟩ : ∃ x, x = w3.heap.size := ⟨_, rfl⟩
  rw [← hXN] at h4 ⊢
  have HN4 := Lib.hid h4
  have HB4 := Lib.hid hb4
  have HZ4 := Lib.hid (below_trans HZ3.out hb4)
  have RN := Lib.hid (cells_later h4)
  have n0 := RN.out 0 _ rfl _ (Below.refl _ _)
  have n1 := RN.out 1 _ rfl _ (Below.refl _ _)
  have n2 := RN.out 2 _ rfl _ (Below.refl _ _)
  have n3 := RN.out 3 _ rfl _ (Below.refl _ _)
  have trn : decide ((160 : Int) < (rn : Int)) = false := by simp; omega
  have trn9 : decide ((rn : Int) > 160) = false := by simp; omega
  have trn0 : ((rn : Int) == 0) = false := by simp; omega
  have trn1 : decide ((rn : Int) = 0) = false := by simp; omega
  clear h4 hon4 hb4 hXN
  refine go_on ?_
  go_wp2_with ((with_reducible refine at_store ?_); refine wpList_store_var rfl _ _ _ rfl w4.heap.size rfl _ rfl _ _ (heap_alloc_new _ _) info_prog9 rfl prog_one ?_; intro w5 h5 hon5; refine halt ?_)
  have hb5 : Below w4.heap.size w4 w5 := below_only ((Below.refl _ _).alloc (Nat.le_refl _) _) hon5 (Nat.le_refl _)
  obtain ⟨G, hG⟩ : ∃ x, x = w4.heap.size := ⟨_, rfl⟩
  have HGB : Hid (w4.heap.size ≤ G) := Lib.hid (Nat.le_of_eq hG.symm)
  rw [← hG] at h5 ⊢
  have HG5 := Lib.hid h5
  have HZ5 := Lib.hid hb5
  have HGL5 : Hid (G < w5.heap.size) := Lib.hid (lt_of_block h5)
  clear n0 n1 n2 n3
  have n3 := RN.out 3 _ rfl _ hb5
  have HVL : Hid (∀ (i : Nat) (r : List Rat × Int × Rat), n.rows[i]? = some r → r.1.length = fn) := Lib.hid (fun i r hr => by
    have h1 := row_len HRN9.out hr
    have := HNQ.out
    omega)
  clear h5 hon5 hb5 hG
  refine go_on ?_
  go_wp2_with fail
  clear n3
  go_loopw [39] (fun iv wr => ∃ (j : Nat) (fa2 : Option Addr) (fc2 : Nat) (ga2 : Option Addr) (gc2 : Nat), j ≤ rn ∧ iv = .int .i64 j ∧ Hid (wr.heap[G]? = some (.cells #[Value.int .i64 (rn : Int), Value.slice fa2 j fc2, Value.slice ga2 j gc2, Value.slice none 0 0] 26 (0, 0))) ∧ Hid (LBo wr w5.heap.size (.slice fa2 j fc2) ((n.rows.map (fun r => decide (r.2.1 = 0))).take j)) ∧ Hid (LFs (2 * N + 1) wr w5.heap.size (.slice ga2 j gc2) ((n.rows.map (fun r => -r.2.2)).take j)) ∧ Hid (Below w4.heap.size w4 wr) ∧ Hid (w5.heap.size ≤ wr.heap.size)) (fun iv _ => rn - (intOf iv).toNat)
  case atStart => exact ⟨0, none, 0, none, 0, Nat.zero_le _, rfl, HG5, Lib.hid (LBo.nil _ _), Lib.hid (LFs.nil _ _ _), HZ5, Lib.hid (Nat.le_refl _)⟩
  case round =>
    obtain ⟨j, fa2, fc2, ga2, gc2, hj, rfl, hG, hO, hD, hZ, hsz⟩ := hrel
    obtain ⟨wo, rfl⟩ : ∃ wo : World, wo = wr := ⟨_, rfl⟩
    by_cases hjn : j < rn
    · have t0 : decide ((j : Int) < (rn : Int)) = true := by simp; omega
      obtain ⟨r, B, off, a1, c1, b, a2, n2, c2, a3, n3, c3, hr, ha, -, hfr, -, -, hcr⟩ := HRF.out.at (i := j) (by have := HNQ.out; omega)
      subst ha
      obtain ⟨f0, f1, f2, f3, f4⟩ := hcr wo (below_trans HB4.out hZ.out)
      obtain ⟨rl, hrl⟩ : ∃ x, x = r.1.length := ⟨_, rfl⟩
      rw [← hrl] at f0
      have HTQ := Lib.hid (neg_take (f := fun r : List Rat × Int × Rat => -r.2.2) hr)
      have HTK := Lib.hid (row_nobool9 (f := fun r : List Rat × Int × Rat => decide (r.2.1 = 0)) hr)
      have HLQ : Hid (lenQ r.2.2 ≤ (2 * N + 1)) := Lib.hid (HSN9.out.2 j r hr).2
      obtain ⟨q, hq⟩ : ∃ q, q = r.2.2 := ⟨_, rfl⟩
      simp only [← hq] at HTQ HLQ hfr
      obtain ⟨sn, hsn⟩ : ∃ x, x = r.2.1 := ⟨_, rfl⟩
      rw [← hsn] at f1
      simp only [← hsn] at HTK
      have HFR := Lib.hid hfr
      clear hcr hr hrl hsn hq hfr
      by_cases hs0 : sn = 0
      · subst hs0
        rw [show decide ((0 : Int) = 0) = true from rfl] at HTK
        go_wp2_with ((with_reducible refine at_store ?_); refine wpList_store_var rfl _ _ _ rfl wo.heap.size rfl _ rfl _ _ (heap_alloc_new _ _) irow rfl row_one ?_; intro w6 h6 hon6; refine halt ?_)
        have hb6 : Below wo.heap.size wo w6 := below_only ((Below.refl _ _).alloc (Nat.le_refl _) _) hon6 (Nat.le_refl _)
        have HB6 := Lib.hid hb6
        have RY := Lib.hid (cells_later h6)
        have HT6 := Lib.hid h6
        have y1 := cells_later h6 1 _ rfl _ (Below.refl _ _)
        have hG6 := Lib.hid ((hb6.block _ (lt_of_block hG.out)).trans hG.out)
        have k1 := cells_later hG6.out 1 _ rfl _ (Below.refl _ _)
        have hO6 := hO.out.below hb6
        obtain ⟨w7, hw7⟩ : ∃ w7, w7 = w6.alloc (Obj.cells #[Value.bool true] 4) := ⟨_, rfl⟩
        have hb7 : Below w6.heap.size w6 w7 := by rw [hw7]; exact (Below.refl _ _).alloc (Nat.le_refl _) _
        have HR7 : Hid (w7.heap[w6.heap.size]? = some (.cells #[Value.bool true] 4 (0, 0))) := Lib.hid (by rw [hw7]; exact heap_alloc_new w6 _)
        have hb67 := Lib.hid hb7
        have HZ7 := Lib.hid (below_trans hb6 hb7)
        have HO7 := Lib.hid (hO6.below hb7)
        have HG7 := Lib.hid ((hb7.block _ (lt_of_block hG6.out)).trans hG6.out)
        have hs7 : Hid (w5.heap.size ≤ w7.heap.size) := Lib.hid (Nat.le_trans hsz.out HZ7.out.size)
        clear h6 hon6 hb6 hb7 hO6 f0 f1 f2 f3 f4
        refine go_on ?_
        go_wp2_with (at_builtin; rw [← hw7]; refine wpList_push_bool rfl _ _ rfl w5.heap.size (Value.slice fa2 j fc2) _ rfl HO7.out w6.heap.size 1 true rfl HR7.out (by rw [List.length_take]; omega) hs7.out ?_; intro v8 w8 hown8 hg8 hbel8 hat8; refine halt ?_)
        rw [HTK.out.1] at hown8
        have HGR8 : Hid (w8.heap[wo.heap.size]? = w7.heap[wo.heap.size]?) := Lib.hid (hg8.block _ (Nat.lt_of_lt_of_le (lt_of_block HT6.out) hb67.out.size) (fun e => by
          obtain ⟨cs, h1⟩ := HO7.out.blk _ e.symm
          have h2 := (hb67.out.block _ (lt_of_block HT6.out)).trans HT6.out
          rw [h1] at h2
          simp at h2))
        have HB8 : Hid (Below w5.heap.size wo w8) := Lib.hid (hbel8 wo (HZ7.out.mono hsz.out))
        have HG8 : Hid (w8.heap[G]? = some (.cells #[Value.int .i64 (rn : Int), Value.slice fa2 j fc2, Value.slice ga2 j gc2, Value.slice none 0 0] 26 (0, 0))) := Lib.hid ((HB8.out.block _ HGL5.out).trans hG.out)
        obtain ⟨na, nc, hv8⟩ := hown8.form
        rw [← HTK.out.1, HTK.out.2] at hv8
        subst hv8
        have HZ8 : Hid (Below w4.heap.size w4 w8) := Lib.hid (hZ.out.trans (HB8.out.mono HZ5.out.size))
        have HD8 : Hid (LFs (2 * N + 1) w8 w5.heap.size (.slice ga2 j gc2) ((n.rows.map (fun r => -r.2.2)).take j)) := Lib.hid ((hD.out.below HZ7.out).keepG HO7.out.2 hg8 (bo_fs HO7.out (hD.out.below HZ7.out)))
        have HT8 := Lib.hid ((HGR8 : Hid (w8.heap[wo.heap.size]? = w7.heap[wo.heap.size]?)).out.trans ((hb67.out.block _ (lt_of_block HT6.out)).trans HT6.out))
        have HS8 : Hid (w5.heap.size ≤ w8.heap.size) := Lib.hid (Nat.le_trans hs7.out hg8.size)
        have HWT : Hid (wo.heap.size < w8.heap.size) := Lib.hid (Nat.lt_of_lt_of_le (lt_of_block HT6.out) (Nat.le_trans hb67.out.size hg8.size))
        have g1 := cells_later HG8.out 1 _ rfl _ (Below.refl _ _)
        have g4 := frozen_of_row _ _ 1 _ _ HG8.out
        have HON := Lib.hid (setk_only w8 G 1 (Value.slice na (j + 1) nc))
        have HG9 := Lib.hid (set1_prog HG8.out (v := Value.slice na (j + 1) nc))
        have HO9 := Lib.hid (hown8.other HON.out HGL5.out)
        have HD9 := Lib.hid (HD8.out.other HG8.out prog_cells HON.out HGL5.out)
        have HT9 := Lib.hid ((HON.out.block wo.heap.size (fun e => by have h1 := lt_of_block hG.out; omega)).trans HT8.out)
        have HZ9 := Lib.hid (below_only HZ8.out HON.out HGB.out)
        have HS9 : Hid (w5.heap.size ≤ (w8.setCell ⟨G, 1, none⟩ (Value.slice na (j + 1) nc)).heap.size) := Lib.hid (by rw [HON.out.size]; exact HS8.out)
        obtain ⟨w9, hw9⟩ : ∃ x, x = w8.setCell ⟨G, 1, none⟩ (Value.slice na (j + 1) nc) := ⟨_, rfl⟩
        rw [← hw9] at HG9 HO9 HD9 HT9 HZ9 HS9
        clear hown8 hg8 hbel8 hat8 hw7 y1 k1 t0 HON
        refine go_on ?_
        go_wp2_with fail
        rw [← hw9]
        clear hw9
        have RG := Lib.hid (cells_later HG9.out)
        have RT := Lib.hid (cells_later HT9.out)
        have KN9 := Lib.hid (fun w' (hb : Below w9.heap.size w9 w') => rneg_few (w := w') (HFR.out.below (below_trans HB4.out (below_trans HZ9.out hb))) (by have := HN.out; omega))
        have hz : Below w9.heap.size w9 w9.drew := below_drewN (Below.refl _ _) 1
        refine wp_region_to 8 (fun w' => w'.cell? ⟨G, 2, none⟩ = some (.slice ga2 j gc2) ∧ w'.cell? ⟨wo.heap.size, 2, none⟩ = some (.bool b) ∧ w'.cell? ⟨wo.heap.size, 3, none⟩ = some (.slice a2 n2 c2) ∧ w'.cell? ⟨wo.heap.size, 4, none⟩ = some (.slice a3 n3 c3)) (by kernel_rfl) (by (try dsimp only); refine ⟨?_, ?_, ?_, ?_⟩ <;> (first | exact RG.out 2 _ rfl _ (by assumption) | exact RT.out 2 _ rfl _ (by assumption) | exact RT.out 3 _ rfl _ (by assumption) | exact RT.out 4 _ rfl _ (by assumption))) (fun hHeld => ?_)
        refine to_take (i := 0) (oi := _) (v := ?_) rfl (by kernel_rfl) (by kernel_rfl) (by kernel_rfl) (fun _ _ _ h => h) (by kernel_rfl) (by decide) (Or.inl ⟨by kernel_rfl, ?_⟩) (by assumption) ?_
        rotate_left
        · intro w hSw
          (try dsimp only at hSw)
          go_simp
          try with_reducible rfl
        try simp only [Act.put, List.getElem_toArray, List.getElem_cons_zero, List.getElem_cons_succ, List.setIfInBounds_toArray, List.set_cons_zero, List.set_cons_succ]
        refine to_take (i := 1) (oi := _) (v := ?_) rfl (by kernel_rfl) (by kernel_rfl) (by kernel_rfl) (fun _ _ _ h => h) (by kernel_rfl) (by decide) (Or.inl ⟨by kernel_rfl, ?_⟩) (by assumption) ?_
        rotate_left
        · intro w hSw
          (try dsimp only at hSw)
          go_simp
          try with_reducible rfl
        try simp only [Act.put, List.getElem_toArray, List.getElem_cons_zero, List.getElem_cons_succ, List.setIfInBounds_toArray, List.set_cons_zero, List.set_cons_succ]
        refine to_take (i := 2) (oi := _) (v := ?_) rfl (by kernel_rfl) (by kernel_rfl) (by kernel_rfl) (fun _ _ _ h => h) (by kernel_rfl) (by decide) (Or.inl ⟨by kernel_rfl, ?_⟩) (by assumption) ?_
        rotate_left
        · intro w hSw
          (try dsimp only at hSw)
          go_simp
          try with_reducible rfl
        try simp only [Act.put, List.getElem_toArray, List.getElem_cons_zero, List.getElem_cons_succ, List.setIfInBounds_toArray, List.set_cons_zero, List.set_cons_succ]
        refine to_take (i := 3) (oi := _) (v := ?_) rfl (by kernel_rfl) (by kernel_rfl) (by kernel_rfl) (fun _ _ _ h => h) (by kernel_rfl) (by decide) (Or.inl ⟨by kernel_rfl, ?_⟩) (by assumption) ?_
        rotate_left
        · intro w hSw
          (try dsimp only at hSw)
          go_simp
          try with_reducible rfl
        try simp only [Act.put, List.getElem_toArray, List.getElem_cons_zero, List.getElem_cons_succ, List.setIfInBounds_toArray, List.set_cons_zero, List.set_cons_succ]
        refine to_ready (rs := [4]) (by kernel_rfl) (by simp) (AllTo.cons (o := _) rfl (fun K hK => ?_) AllTo.nil)
        go_simp
        refine (KN9.out _ hz).mono ?_
        rintro en10 w10 ⟨⟨v10, rfl, f10⟩, hb10⟩
        have f10 := fv_few9 f10 (show lenQ (-q) ≤ (2 * N + 1) from by rw [len_negq]; exact HLQ.out) (by have := HN.out; omega)
        obtain ⟨a10, n10, c10, i10, j10, k10, bu, hq10⟩ := few_form f10
        subst hq10
        have hz := below_trans hz hb10
        try go_wp2_with fail
        refine hK.out _ _ (fun _ => ?_) (fun hHeld => ?_)
        · (try dsimp only); refine ⟨?_, ?_, ?_, ?_⟩ <;> (first | exact RG.out 2 _ rfl _ (by assumption) | exact RT.out 2 _ rfl _ (by assumption) | exact RT.out 3 _ rfl _ (by assumption) | exact RT.out 4 _ rfl _ (by assumption))
        replace hHeld := hHeld (by decide)
        clear hK K
        try simp only [Act.put, List.getElem_toArray, List.getElem_cons_zero, List.getElem_cons_succ, List.setIfInBounds_toArray, List.set_cons_zero, List.set_cons_succ]
        refine to_ready (rs := [5]) (by kernel_rfl) (by simp) (AllTo.cons (o := _) rfl (fun K hK => ?_) AllTo.nil)
        go_simp
        obtain ⟨w11, hw11⟩ : ∃ w', w' = w10.alloc (Obj.cells #[Value.bool bu, Value.slice a10 n10 c10, Value.slice i10 j10 k10] 43) := ⟨_, rfl⟩
        have hb11 : Below w10.heap.size w10 w11 := by rw [hw11]; exact (Below.refl _ _).alloc (Nat.le_refl _) _
        have hr11 : w11.heap[w10.heap.size]? = some (.cells #[Value.bool bu, Value.slice a10 n10 c10, Value.slice i10 j10 k10] 43 (0, 0)) := by rw [hw11]; exact heap_alloc_new w10 _
        rw [← hw11]
        clear hw11
        have hz := below_trans hz hb11
        have f11 := f10.below hb11
        refine hK.out _ _ (fun _ => ?_) (fun hHeld => ?_)
        · (try dsimp only); refine ⟨?_, ?_, ?_, ?_⟩ <;> (first | exact RG.out 2 _ rfl _ (by assumption) | exact RT.out 2 _ rfl _ (by assumption) | exact RT.out 3 _ rfl _ (by assumption) | exact RT.out 4 _ rfl _ (by assumption))
        replace hHeld := hHeld (by decide)
        clear hK K
        try simp only [Act.put, List.getElem_toArray, List.getElem_cons_zero, List.getElem_cons_succ, List.setIfInBounds_toArray, List.set_cons_zero, List.set_cons_succ]
        refine to_ready (rs := [6]) (by kernel_rfl) (by simp) (AllTo.cons (o := _) rfl (fun K hK => ?_) AllTo.nil)
        rw [if_pos (by kernel_rfl)]
        have HO11 := HD9.out.below hz
        refine oper_push_frac _ _ rfl (2 * N + 1) w5.heap.size (Value.slice ga2 j gc2) _ rfl HO11 w10.heap.size 1 bu a10 i10 n10 c10 j10 k10 _ rfl hr11 f11 (by rw [List.length_take]; omega) (Nat.le_trans HS9.out hz.size) ?_
        intro v12 w12 hown12 hg12 hbel12 hat12 hold12
        have HB12 : Below w5.heap.size w9 w12 := hbel12 w9 (hz.mono HS9.out)
        have HG12 := (HB12.block _ HGL5.out).trans HG9.out
        have HT12 := (hg12.block _ (Nat.lt_of_lt_of_le (lt_of_block HT9.out) hz.size) (fun e => by
          obtain ⟨cs, h1⟩ := HO11.blk _ e.symm
          have h2 := (hz.block _ (lt_of_block HT9.out)).trans HT9.out
          rw [h1] at h2
          simp at h2)).trans ((hz.block _ (lt_of_block HT9.out)).trans HT9.out)
        have HZ12 : Below w4.heap.size w4 w12 := HZ9.out.trans (HB12.mono HZ5.out.size)
        have HF12 : LBo w12 w5.heap.size (.slice na (j + 1) nc) ((n.rows.map (fun r => decide (r.2.1 = 0))).take (j + 1)) := (HO9.out.below hz).keep hg12 (fun g hg e => (bo_fs (HO9.out.below hz) HO11 g e) hg)
        rw [HTQ.out.1] at hown12
        obtain ⟨nb, nd, hv12⟩ := hown12.form
        rw [← HTQ.out.1, HTQ.out.2] at hv12
        subst hv12
        have HS12 : w5.heap.size ≤ w12.heap.size := Nat.le_trans (Nat.le_trans HS9.out hz.size) hg12.size
        refine hK.out _ _ (fun _ => ?_) (fun hHeld => ?_)
        · (try dsimp only); refine ⟨?_, ?_, ?_, ?_⟩ <;> (first | exact cells_later HG12 2 _ rfl _ (Below.refl _ _) | exact cells_later HT12 2 _ rfl _ (Below.refl _ _) | exact cells_later HT12 3 _ rfl _ (Below.refl _ _) | exact cells_later HT12 4 _ rfl _ (Below.refl _ _))
        replace hHeld := hHeld (by decide)
        clear hK K
        try simp only [Act.put, List.getElem_toArray, List.getElem_cons_zero, List.getElem_cons_succ, List.setIfInBounds_toArray, List.set_cons_zero, List.set_cons_succ]
        refine to_take (i := 7) (oi := _) (v := ?_) rfl (by kernel_rfl) (by kernel_rfl) (by kernel_rfl) (fun _ _ _ h => h) (by kernel_rfl) (by decide) (Or.inl ⟨by kernel_rfl, ?_⟩) (by assumption) ?_
        rotate_left
        · intro w hSw
          (try dsimp only at hSw)
          go_simp
          try with_reducible rfl
        try simp only [Act.put, List.getElem_toArray, List.getElem_cons_zero, List.getElem_cons_succ, List.setIfInBounds_toArray, List.set_cons_zero, List.set_cons_succ]
        refine to_ready (rs := [8]) (by kernel_rfl) (by simp) (AllTo.cons (o := _) rfl (fun K hK => ?_) AllTo.nil)
        have g3 := cells_later HG12 2 _ rfl _ (Below.refl _ _)
        have g4 := frozen_of_row _ _ 2 _ _ HG12
        go_simp
        refine hK.out _ _ (fun h => absurd rfl h) (fun _ => ?_)
        clear hK K
        try simp only [Act.put, List.getElem_toArray, List.getElem_cons_zero, List.getElem_cons_succ, List.setIfInBounds_toArray, List.set_cons_zero, List.set_cons_succ]
        refine to_done (by kernel_rfl) ?_ _
        have HON := setk_only w12 G 2 (Value.slice nb (j + 1) nd)
        have HG13 := Lib.hid (set2_prog HG12 (v := Value.slice nb (j + 1) nd))
        have HO13 := Lib.hid (HF12.other HON HGL5.out)
        have HD13 := Lib.hid (hown12.other HG12 prog_cells HON HGL5.out)
        have HZ13 := Lib.hid (below_only HZ12 HON HGB.out)
        have HS13 : Hid (w5.heap.size ≤ (w12.setCell ⟨G, 2, none⟩ (Value.slice nb (j + 1) nd)).heap.size) := Lib.hid (by rw [HON.size]; exact HS12)
        clear HON HG12 HT12 HZ12 HF12 HB12 hown12
        go_wp2_with fail
        go_roundw
        case rel => exact ⟨j + 1, _, _, _, _, by omega, by go_num, HG13, HO13, HD13, HZ13, HS13⟩
        case measure => simp [intOf]; omega
      · have t6 : (sn == 0) = false := by simpa using hs0
        have t7 : decide (sn = 0) = false := by simpa using hs0
        rw [t7] at HTK
        go_wp2_with ((with_reducible refine at_store ?_); refine wpList_store_var rfl _ _ _ rfl wo.heap.size rfl _ rfl _ _ (heap_alloc_new _ _) irow rfl row_one ?_; intro w6 h6 hon6; refine halt ?_)
        have hb6 : Below wo.heap.size wo w6 := below_only ((Below.refl _ _).alloc (Nat.le_refl _) _) hon6 (Nat.le_refl _)
        have HB6 := Lib.hid hb6
        have RY := Lib.hid (cells_later h6)
        have HT6 := Lib.hid h6
        have y1 := cells_later h6 1 _ rfl _ (Below.refl _ _)
        have hG6 := Lib.hid ((hb6.block _ (lt_of_block hG.out)).trans hG.out)
        have k1 := cells_later hG6.out 1 _ rfl _ (Below.refl _ _)
        have hO6 := hO.out.below hb6
        obtain ⟨w7, hw7⟩ : ∃ w7, w7 = w6.alloc (Obj.cells #[Value.bool false] 4) := ⟨_, rfl⟩
        have hb7 : Below w6.heap.size w6 w7 := by rw [hw7]; exact (Below.refl _ _).alloc (Nat.le_refl _) _
        have HR7 : Hid (w7.heap[w6.heap.size]? = some (.cells #[Value.bool false] 4 (0, 0))) := Lib.hid (by rw [hw7]; exact heap_alloc_new w6 _)
        have hb67 := Lib.hid hb7
        have HZ7 := Lib.hid (below_trans hb6 hb7)
        have HO7 := Lib.hid (hO6.below hb7)
        have HG7 := Lib.hid ((hb7.block _ (lt_of_block hG6.out)).trans hG6.out)
        have hs7 : Hid (w5.heap.size ≤ w7.heap.size) := Lib.hid (Nat.le_trans hsz.out HZ7.out.size)
        clear h6 hon6 hb6 hb7 hO6 f0 f1 f2 f3 f4
        refine go_on ?_
        go_wp2_with (at_builtin; rw [← hw7]; refine wpList_push_bool rfl _ _ rfl w5.heap.size (Value.slice fa2 j fc2) _ rfl HO7.out w6.heap.size 1 false rfl HR7.out (by rw [List.length_take]; omega) hs7.out ?_; intro v8 w8 hown8 hg8 hbel8 hat8; refine halt ?_)
        rw [HTK.out.1] at hown8
        have HGR8 : Hid (w8.heap[wo.heap.size]? = w7.heap[wo.heap.size]?) := Lib.hid (hg8.block _ (Nat.lt_of_lt_of_le (lt_of_block HT6.out) hb67.out.size) (fun e => by
          obtain ⟨cs, h1⟩ := HO7.out.blk _ e.symm
          have h2 := (hb67.out.block _ (lt_of_block HT6.out)).trans HT6.out
          rw [h1] at h2
          simp at h2))
        have HB8 : Hid (Below w5.heap.size wo w8) := Lib.hid (hbel8 wo (HZ7.out.mono hsz.out))
        have HG8 : Hid (w8.heap[G]? = some (.cells #[Value.int .i64 (rn : Int), Value.slice fa2 j fc2, Value.slice ga2 j gc2, Value.slice none 0 0] 26 (0, 0))) := Lib.hid ((HB8.out.block _ HGL5.out).trans hG.out)
        obtain ⟨na, nc, hv8⟩ := hown8.form
        rw [← HTK.out.1, HTK.out.2] at hv8
        subst hv8
        have HZ8 : Hid (Below w4.heap.size w4 w8) := Lib.hid (hZ.out.trans (HB8.out.mono HZ5.out.size))
        have HD8 : Hid (LFs (2 * N + 1) w8 w5.heap.size (.slice ga2 j gc2) ((n.rows.map (fun r => -r.2.2)).take j)) := Lib.hid ((hD.out.below HZ7.out).keepG HO7.out.2 hg8 (bo_fs HO7.out (hD.out.below HZ7.out)))
        have HT8 := Lib.hid ((HGR8 : Hid (w8.heap[wo.heap.size]? = w7.heap[wo.heap.size]?)).out.trans ((hb67.out.block _ (lt_of_block HT6.out)).trans HT6.out))
        have HS8 : Hid (w5.heap.size ≤ w8.heap.size) := Lib.hid (Nat.le_trans hs7.out hg8.size)
        have HWT : Hid (wo.heap.size < w8.heap.size) := Lib.hid (Nat.lt_of_lt_of_le (lt_of_block HT6.out) (Nat.le_trans hb67.out.size hg8.size))
        have g1 := cells_later HG8.out 1 _ rfl _ (Below.refl _ _)
        have g4 := frozen_of_row _ _ 1 _ _ HG8.out
        have HON := Lib.hid (setk_only w8 G 1 (Value.slice na (j + 1) nc))
        have HG9 := Lib.hid (set1_prog HG8.out (v := Value.slice na (j + 1) nc))
        have HO9 := Lib.hid (hown8.other HON.out HGL5.out)
        have HD9 := Lib.hid (HD8.out.other HG8.out prog_cells HON.out HGL5.out)
        have HT9 := Lib.hid ((HON.out.block wo.heap.size (fun e => by have h1 := lt_of_block hG.out; omega)).trans HT8.out)
        have HZ9 := Lib.hid (below_only HZ8.out HON.out HGB.out)
        have HS9 : Hid (w5.heap.size ≤ (w8.setCell ⟨G, 1, none⟩ (Value.slice na (j + 1) nc)).heap.size) := Lib.hid (by rw [HON.out.size]; exact HS8.out)
        obtain ⟨w9, hw9⟩ : ∃ x, x = w8.setCell ⟨G, 1, none⟩ (Value.slice na (j + 1) nc) := ⟨_, rfl⟩
        rw [← hw9] at HG9 HO9 HD9 HT9 HZ9 HS9
        clear hown8 hg8 hbel8 hat8 hw7 y1 k1 t0 HON
        refine go_on ?_
        go_wp2_with fail
        rw [← hw9]
        clear hw9
        have RG := Lib.hid (cells_later HG9.out)
        have RT := Lib.hid (cells_later HT9.out)
        have KN9 := Lib.hid (fun w' (hb : Below w9.heap.size w9 w') => rneg_few (w := w') (HFR.out.below (below_trans HB4.out (below_trans HZ9.out hb))) (by have := HN.out; omega))
        have hz : Below w9.heap.size w9 w9.drew := below_drewN (Below.refl _ _) 1
        refine wp_region_to 8 (fun w' => w'.cell? ⟨G, 2, none⟩ = some (.slice ga2 j gc2) ∧ w'.cell? ⟨wo.heap.size, 2, none⟩ = some (.bool b) ∧ w'.cell? ⟨wo.heap.size, 3, none⟩ = some (.slice a2 n2 c2) ∧ w'.cell? ⟨wo.heap.size, 4, none⟩ = some (.slice a3 n3 c3)) (by kernel_rfl) (by (try dsimp only); refine ⟨?_, ?_, ?_, ?_⟩ <;> (first | exact RG.out 2 _ rfl _ (by assumption) | exact RT.out 2 _ rfl _ (by assumption) | exact RT.out 3 _ rfl _ (by assumption) | exact RT.out 4 _ rfl _ (by assumption))) (fun hHeld => ?_)
        refine to_take (i := 0) (oi := _) (v := ?_) rfl (by kernel_rfl) (by kernel_rfl) (by kernel_rfl) (fun _ _ _ h => h) (by kernel_rfl) (by decide) (Or.inl ⟨by kernel_rfl, ?_⟩) (by assumption) ?_
        rotate_left
        · intro w hSw
          (try dsimp only at hSw)
          go_simp
          try with_reducible rfl
        try simp only [Act.put, List.getElem_toArray, List.getElem_cons_zero, List.getElem_cons_succ, List.setIfInBounds_toArray, List.set_cons_zero, List.set_cons_succ]
        refine to_take (i := 1) (oi := _) (v := ?_) rfl (by kernel_rfl) (by kernel_rfl) (by kernel_rfl) (fun _ _ _ h => h) (by kernel_rfl) (by decide) (Or.inl ⟨by kernel_rfl, ?_⟩) (by assumption) ?_
        rotate_left
        · intro w hSw
          (try dsimp only at hSw)
          go_simp
          try with_reducible rfl
        try simp only [Act.put, List.getElem_toArray, List.getElem_cons_zero, List.getElem_cons_succ, List.setIfInBounds_toArray, List.set_cons_zero, List.set_cons_succ]
        refine to_take (i := 2) (oi := _) (v := ?_) rfl (by kernel_rfl) (by kernel_rfl) (by kernel_rfl) (fun _ _ _ h => h) (by kernel_rfl) (by decide) (Or.inl ⟨by kernel_rfl, ?_⟩) (by assumption) ?_
        rotate_left
        · intro w hSw
          (try dsimp only at hSw)
          go_simp
          try with_reducible rfl
        try simp only [Act.put, List.getElem_toArray, List.getElem_cons_zero, List.getElem_cons_succ, List.setIfInBounds_toArray, List.set_cons_zero, List.set_cons_succ]
        refine to_take (i := 3) (oi := _) (v := ?_) rfl (by kernel_rfl) (by kernel_rfl) (by kernel_rfl) (fun _ _ _ h => h) (by kernel_rfl) (by decide) (Or.inl ⟨by kernel_rfl, ?_⟩) (by assumption) ?_
        rotate_left
        · intro w hSw
          (try dsimp only at hSw)
          go_simp
          try with_reducible rfl
        try simp only [Act.put, List.getElem_toArray, List.getElem_cons_zero, List.getElem_cons_succ, List.setIfInBounds_toArray, List.set_cons_zero, List.set_cons_succ]
        refine to_ready (rs := [4]) (by kernel_rfl) (by simp) (AllTo.cons (o := _) rfl (fun K hK => ?_) AllTo.nil)
        go_simp
        refine (KN9.out _ hz).mono ?_
        rintro en10 w10 ⟨⟨v10, rfl, f10⟩, hb10⟩
        have f10 := fv_few9 f10 (show lenQ (-q) ≤ (2 * N + 1) from by rw [len_negq]; exact HLQ.out) (by have := HN.out; omega)
        obtain ⟨a10, n10, c10, i10, j10, k10, bu, hq10⟩ := few_form f10
        subst hq10
        have hz := below_trans hz hb10
        try go_wp2_with fail
        refine hK.out _ _ (fun _ => ?_) (fun hHeld => ?_)
        · (try dsimp only); refine ⟨?_, ?_, ?_, ?_⟩ <;> (first | exact RG.out 2 _ rfl _ (by assumption) | exact RT.out 2 _ rfl _ (by assumption) | exact RT.out 3 _ rfl _ (by assumption) | exact RT.out 4 _ rfl _ (by assumption))
        replace hHeld := hHeld (by decide)
        clear hK K
        try simp only [Act.put, List.getElem_toArray, List.getElem_cons_zero, List.getElem_cons_succ, List.setIfInBounds_toArray, List.set_cons_zero, List.set_cons_succ]
        refine to_ready (rs := [5]) (by kernel_rfl) (by simp) (AllTo.cons (o := _) rfl (fun K hK => ?_) AllTo.nil)
        go_simp
        obtain ⟨w11, hw11⟩ : ∃ w', w' = w10.alloc (Obj.cells #[Value.bool bu, Value.slice a10 n10 c10, Value.slice i10 j10 k10] 43) := ⟨_, rfl⟩
        have hb11 : Below w10.heap.size w10 w11 := by rw [hw11]; exact (Below.refl _ _).alloc (Nat.le_refl _) _
        have hr11 : w11.heap[w10.heap.size]? = some (.cells #[Value.bool bu, Value.slice a10 n10 c10, Value.slice i10 j10 k10] 43 (0, 0)) := by rw [hw11]; exact heap_alloc_new w10 _
        rw [← hw11]
        clear hw11
        have hz := below_trans hz hb11
        have f11 := f10.below hb11
        refine hK.out _ _ (fun _ => ?_) (fun hHeld => ?_)
        · (try dsimp only); refine ⟨?_, ?_, ?_, ?_⟩ <;> (first | exact RG.out 2 _ rfl _ (by assumption) | exact RT.out 2 _ rfl _ (by assumption) | exact RT.out 3 _ rfl _ (by assumption) | exact RT.out 4 _ rfl _ (by assumption))
        replace hHeld := hHeld (by decide)
        clear hK K
        try simp only [Act.put, List.getElem_toArray, List.getElem_cons_zero, List.getElem_cons_succ, List.setIfInBounds_toArray, List.set_cons_zero, List.set_cons_succ]
        refine to_ready (rs := [6]) (by kernel_rfl) (by simp) (AllTo.cons (o := _) rfl (fun K hK => ?_) AllTo.nil)
        rw [if_pos (by kernel_rfl)]
        have HO11 := HD9.out.below hz
        refine oper_push_frac _ _ rfl (2 * N + 1) w5.heap.size (Value.slice ga2 j gc2) _ rfl HO11 w10.heap.size 1 bu a10 i10 n10 c10 j10 k10 _ rfl hr11 f11 (by rw [List.length_take]; omega) (Nat.le_trans HS9.out hz.size) ?_
        intro v12 w12 hown12 hg12 hbel12 hat12 hold12
        have HB12 : Below w5.heap.size w9 w12 := hbel12 w9 (hz.mono HS9.out)
        have HG12 := (HB12.block _ HGL5.out).trans HG9.out
        have HT12 := (hg12.block _ (Nat.lt_of_lt_of_le (lt_of_block HT9.out) hz.size) (fun e => by
          obtain ⟨cs, h1⟩ := HO11.blk _ e.symm
          have h2 := (hz.block _ (lt_of_block HT9.out)).trans HT9.out
          rw [h1] at h2
          simp at h2)).trans ((hz.block _ (lt_of_block HT9.out)).trans HT9.out)
        have HZ12 : Below w4.heap.size w4 w12 := HZ9.out.trans (HB12.mono HZ5.out.size)
        have HF12 : LBo w12 w5.heap.size (.slice na (j + 1) nc) ((n.rows.map (fun r => decide (r.2.1 = 0))).take (j + 1)) := (HO9.out.below hz).keep hg12 (fun g hg e => (bo_fs (HO9.out.below hz) HO11 g e) hg)
        rw [HTQ.out.1] at hown12
        obtain ⟨nb, nd, hv12⟩ := hown12.form
        rw [← HTQ.out.1, HTQ.out.2] at hv12
        subst hv12
        have HS12 : w5.heap.size ≤ w12.heap.size := Nat.le_trans (Nat.le_trans HS9.out hz.size) hg12.size
        refine hK.out _ _ (fun _ => ?_) (fun hHeld => ?_)
        · (try dsimp only); refine ⟨?_, ?_, ?_, ?_⟩ <;> (first | exact cells_later HG12 2 _ rfl _ (Below.refl _ _) | exact cells_later HT12 2 _ rfl _ (Below.refl _ _) | exact cells_later HT12 3 _ rfl _ (Below.refl _ _) | exact cells_later HT12 4 _ rfl _ (Below.refl _ _))
        replace hHeld := hHeld (by decide)
        clear hK K
        try simp only [Act.put, List.getElem_toArray, List.getElem_cons_zero, List.getElem_cons_succ, List.setIfInBounds_toArray, List.set_cons_zero, List.set_cons_succ]
        refine to_take (i := 7) (oi := _) (v := ?_) rfl (by kernel_rfl) (by kernel_rfl) (by kernel_rfl) (fun _ _ _ h => h) (by kernel_rfl) (by decide) (Or.inl ⟨by kernel_rfl, ?_⟩) (by assumption) ?_
        rotate_left
        · intro w hSw
          (try dsimp only at hSw)
          go_simp
          try with_reducible rfl
        try simp only [Act.put, List.getElem_toArray, List.getElem_cons_zero, List.getElem_cons_succ, List.setIfInBounds_toArray, List.set_cons_zero, List.set_cons_succ]
        refine to_ready (rs := [8]) (by kernel_rfl) (by simp) (AllTo.cons (o := _) rfl (fun K hK => ?_) AllTo.nil)
        have g3 := cells_later HG12 2 _ rfl _ (Below.refl _ _)
        have g4 := frozen_of_row _ _ 2 _ _ HG12
        go_simp
        refine hK.out _ _ (fun h => absurd rfl h) (fun _ => ?_)
        clear hK K
        try simp only [Act.put, List.getElem_toArray, List.getElem_cons_zero, List.getElem_cons_succ, List.setIfInBounds_toArray, List.set_cons_zero, List.set_cons_succ]
        refine to_done (by kernel_rfl) ?_ _
        have HON := setk_only w12 G 2 (Value.slice nb (j + 1) nd)
        have HG13 := Lib.hid (set2_prog HG12 (v := Value.slice nb (j + 1) nd))
        have HO13 := Lib.hid (HF12.other HON HGL5.out)
        have HD13 := Lib.hid (hown12.other HG12 prog_cells HON HGL5.out)
        have HZ13 := Lib.hid (below_only HZ12 HON HGB.out)
        have HS13 : Hid (w5.heap.size ≤ (w12.setCell ⟨G, 2, none⟩ (Value.slice nb (j + 1) nd)).heap.size) := Lib.hid (by rw [HON.size]; exact HS12)
        clear HON HG12 HT12 HZ12 HF12 HB12 hown12
        go_wp2_with fail
        go_roundw
        case rel => exact ⟨j + 1, _, _, _, _, by omega, by go_num, HG13, HO13, HD13, HZ13, HS13⟩
        case measure => simp [intOf]; omega
    · have t0 : decide ((j : Int) < (rn : Int)) = false := by simp; omega
      obtain rfl : j = rn := by omega
      have HFB : Hid (BoolsF wo fa2 (n.rows.map (fun r => decide (r.2.1 = 0)))) := Lib.hid (by
        have h1 := hO.out
        rw [List.take_of_length_le (by rw [List.length_map]; have := HNQ.out; omega)] at h1
        exact h1.bools)
      have HFLT : Hid (∀ x, fa2 = some x → x.block < wo.heap.size) := Lib.hid (by
        obtain ⟨b0, B0, off0, -, ha0, hc0⟩ := HFB.out.at (i := 0) (by rw [List.length_map]; have := HNQ.out; omega)
        intro x hx
        rw [ha0] at hx
        cases hx
        exact cell_lt (hc0 _ (Below.refl _ _)))
      have HDLT : Hid (∀ g, (Value.slice ga2 j gc2).ownBlock = some g → g < wo.heap.size) := Lib.hid (fun g hg => (hD.out.lt g hg).2)
      have HD : Hid ((rkF (2 * N + 1)).L wo (.slice ga2 j gc2) (n.rows.map (fun r => -r.2.2))) := Lib.hid (by
        have h1 := hD.out
        rw [List.take_of_length_le (by rw [List.length_map]; have := HNQ.out; omega)] at h1
        exact ⟨_, h1⟩)
      have HGWO : Hid (G < wo.heap.size) := Lib.hid (lt_of_block hG.out)
      obtain ⟨w6, hw6⟩ : ∃ x : World, x = wo := ⟨_, rfl⟩
      rw [← hw6] at HFB HFLT HDLT HGWO HD hZ hG hsz ⊢
      have HZ6 := Lib.hid hZ.out
      clear hw6 hO hD
      go_wp2_with fail
      go_loopw [9] (fun iv wr => ∃ (k : Nat) (ra2 : Option Addr) (rc2 : Nat), k ≤ fn ∧ iv = .int .i64 k ∧ Hid (wr.heap[G]? = some (.cells #[Value.int .i64 (j : Int), Value.slice fa2 j fc2, Value.slice ga2 j gc2, Value.slice ra2 k rc2] 26 (0, 0))) ∧ Hid (LRo (rkF (2 * N + 1)) wr w6.heap.size (.slice ra2 k rc2) (((List.range n.goal.length).map (dualR n)).take k)) ∧ Hid (BoolsF wr fa2 (n.rows.map (fun r => decide (r.2.1 = 0)))) ∧ Hid ((rkF (2 * N + 1)).L wr (.slice ga2 j gc2) (n.rows.map (fun r => -r.2.2))) ∧ Hid (Below w4.heap.size w4 wr) ∧ Hid (w6.heap.size ≤ wr.heap.size)) (fun iv _ => fn - (intOf iv).toNat)
      case atStart => exact ⟨0, none, 0, Nat.zero_le _, rfl, hG, Lib.hid (LRo.nil _ _ _), HFB, HD, hZ, Lib.hid (Nat.le_refl _)⟩
      case round =>
        obtain ⟨k, ra2, rc2, hk, rfl, hG9, hO, hF, hD9, hZ9, hsz9⟩ := hrel
        obtain ⟨wo, rfl⟩ : ∃ wo : World, wo = wr := ⟨_, rfl⟩
        have n0 := RN.out 0 _ rfl _ hZ9.out
        by_cases hkn : k < fn
        · have t0 : decide ((k : Int) < (fn : Int)) = true := by simp; omega
          have n2 := RN.out 2 _ rfl _ hZ9.out
          obtain ⟨q, Bg, offg, bg, p1, q1, s1, p2, q2, s2, hq, hBg, hcg, hfg⟩ := HGL.out.at hkn
          subst hBg
          obtain ⟨fb, Bf, offf, hfb, haf, hcf⟩ := HBF.out.at (i := k) (by have := HNQ.out; omega)
          subst haf
          obtain ⟨e0, e1, e2⟩ := hcg wo (below_trans HB4.out hZ9.out)
          have HDR : Hid (dualR n k = (n.rows.map (fun r => -(nthQ r.1 k)), (if fb = true then 0 else -1), -q)) := Lib.hid (by
            unfold dualR
            rw [hfb, nthQ_of hq]
            rfl)
          have HLQ : Hid (lenQ q ≤ (2 * N + 1)) := Lib.hid (by rw [← nthQ_of hq]; exact HSN9.out.1 k (by have := HNQ.out; omega))
          have HTK := Lib.hid (dual_take (n := n) (j := k) (by have := HNQ.out; omega))
          have HCF : Hid (∀ w', Below wo.heap.size wo w' → w'.cell? ⟨Bf, offf + k, none⟩ = some (.bool fb)) := Lib.hid (fun w' hb => hcf w' (below_trans HB4.out (below_trans hZ9.out hb)))
          have RNW := Lib.hid (fun o v h w' (hb : Below wo.heap.size wo w') => RN.out o v h w' (below_trans hZ9.out hb))
          have KN9 := Lib.hid (rneg_few (w := wo) (hfg.below (below_trans HB4.out hZ9.out)) (by have := HN.out; omega))
          clear hq hcg hfg hfb hcf
          go_wp2_with fail
          refine KN9.out.mono ?_
          rintro en8 w8 ⟨⟨v8, rfl, f8⟩, hb8⟩
          have f8 := fv_few9 f8 (show lenQ (-q) ≤ (2 * N + 1) from by rw [len_negq]; exact HLQ.out) (by have := HN.out; omega)
          obtain ⟨a8, n8, c8, i8, j8, k8, bu8, hq8⟩ := few_form f8
          subst hq8
          have HF8 := Lib.hid f8
          have HZ8 := Lib.hid hb8
          clear f8 hb8 e0 e1 e2 n0 n2
          go_wp2_with ((with_reducible refine at_store ?_); refine wpList_store_var rfl _ _ _ rfl w8.heap.size rfl _ rfl _ _ (heap_alloc_new _ _) irow rfl row_one ?_; intro w7 h7 hon7; refine halt ?_)
          have hb7 : Below w8.heap.size w8 w7 := below_only ((Below.refl _ _).alloc (Nat.le_refl _) _) hon7 (Nat.le_refl _)
          obtain ⟨T, hT⟩ : ∃ x, x = w8.heap.size := ⟨_, rfl⟩
          have HTB : Hid (wo.heap.size ≤ T) := Lib.hid (by rw [hT]; exact HZ8.out.size)
          rw [← hT] at h7 ⊢
          have HT7 := Lib.hid h7
          have HZ7 := Lib.hid (below_trans HZ8.out hb7)
          have HF7 := Lib.hid (HF8.out.below hb7)
          have n1 := RNW.out 1 _ rfl _ HZ7.out
          have f1 := HCF.out _ HZ7.out
          clear h7 hon7 hb7 hT HF8
          cases fb with
          | true =>
            rw [show (if true = true then (0 : Int) else -1) = 0 from rfl] at HDR
            have z1 := frozen_of_row _ _ 1 _ _ HT7.out
            have z0 := cells_later HT7.out 1 _ rfl _ (Below.refl _ _)
            have HT9 := Lib.hid (set1_row5 HT7.out (v := Value.int .i64 0))
            have HON9 := Lib.hid (setk_only w7 T 1 (Value.int .i64 0))
            have HF9 := Lib.hid (few_other HF7.out HT7.out row_nou HON9.out)
            have HZ9 := Lib.hid (below_only HZ7.out HON9.out HTB.out)
            obtain ⟨w9, hw9⟩ : ∃ x, x = w7.setCell ⟨T, 1, none⟩ (Value.int .i64 0) := ⟨_, rfl⟩
            rw [← hw9] at HT9 HF9 HZ9
            have n3 := RNW.out 3 _ rfl _ HZ9.out
            have n3' := RNW.out 3 _ rfl _ HZ7.out
            have HONW : Hid (w7.setCell ⟨T, 1, none⟩ (Value.int .i64 0) = w9) := Lib.hid hw9.symm
            have n3 : (w7.setCell ⟨T, 1, none⟩ (Value.int .i64 0)).cell? ⟨XN, 3, none⟩ = some (Value.slice oa j oc) := by rw [HONW.out]; exact n3
            refine go_on ?_
            go_wp2_with fail
            rw [← hw9]
            clear hw9 HON9 z0 z1 n1 f1 n3 n3'
            have HTL : Hid (T < w9.heap.size) := Lib.hid (lt_of_block HT9.out)
            have HW9 : Hid (wo.heap.size ≤ w9.heap.size) := Lib.hid HZ9.out.size
            go_loopw [82] (fun iv wr => ∃ (i : Nat) (ra3 : Option Addr) (rc3 : Nat), i ≤ j ∧ iv = .int .i64 i ∧ Hid (wr.heap[T]? = some (.cells #[Value.slice ra3 i rc3, Value.int .i64 0, Value.bool bu8, Value.slice a8 n8 c8, Value.slice i8 j8 k8] 45 (0, 0))) ∧ Hid (LFs (2 * N + 1) wr w9.heap.size (.slice ra3 i rc3) ((n.rows.map (fun r => -(nthQ r.1 k))).take i)) ∧ Hid (FewF (2 * N + 1) wr (.agg #[.bool bu8, .slice a8 n8 c8, .slice i8 j8 k8]) (-q)) ∧ Hid (Below wo.heap.size wo wr) ∧ Hid (w9.heap.size ≤ wr.heap.size)) (fun iv _ => j - (intOf iv).toNat)
            case atStart => exact ⟨0, none, 0, Nat.zero_le _, rfl, HT9, Lib.hid (LFs.nil _ _ _), HF9, HZ9, Lib.hid (Nat.le_refl _)⟩
            case round =>
              obtain ⟨i, ra3, rc3, hi, rfl, hT, hL, hQ, hZi, hszi⟩ := hrel
              obtain ⟨wi, rfl⟩ : ∃ wi : World, wi = wr := ⟨_, rfl⟩
              by_cases hin : i < j
              · have t1 : decide ((i : Int) < (j : Int)) = true := by simp; omega
                obtain ⟨r, B, off, a1, c1, b, a2, n2, c2, a3, n3, c3, hr, ha, hlr, -, -, -, hcr⟩ := HRF.out.at (i := i) (by have := HNQ.out; omega)
                subst ha
                have hw3 := below_trans HB4.out (below_trans hZ9.out hZi.out)
                obtain ⟨f0, f1, f2, f3, f4⟩ := hcr wi hw3
                have hrl0 := HVL.out i r hr
                obtain ⟨rl, hrl⟩ : ∃ x, x = r.1.length := ⟨_, rfl⟩
                rw [← hrl] at f0 hlr
                have hkr : k < rl := by omega
                obtain ⟨qe, Be, offe, be, x1, y1, z1, x2, y2, z2, hqe, hae, hce, hfe⟩ := hlr.at hkr
                subst hae
                have HTQ := Lib.hid (neg_take (f := fun r : List Rat × Int × Rat => nthQ r.1 k) hr)
                have HTQ := Lib.hid (neg_take (f := fun r : List Rat × Int × Rat => -(nthQ r.1 k)) hr)
                simp only [nthQ_of hqe] at HTQ
                have HLE : Hid (lenQ qe ≤ (2 * N + 1)) := Lib.hid (by rw [← nthQ_of hqe]; exact (HSN9.out.2 i r hr).1 k (by omega))
                have HFE := Lib.hid hfe
                have HCE : Hid (∀ w', Below wi.heap.size wi w' → w'.cell? ⟨Be, offe + k * 3, none⟩ = some (.bool be) ∧ w'.cell? ⟨Be, offe + k * 3 + 1, none⟩ = some (.slice x1 y1 z1) ∧ w'.cell? ⟨Be, offe + k * 3 + 2, none⟩ = some (.slice x2 y2 z2)) := Lib.hid (fun w' hb => hce w' (below_trans hw3 hb))
                have HCEW : Hid (∀ w', Below wo.heap.size wo w' → w'.cell? ⟨Be, offe + k * 3, none⟩ = some (.bool be) ∧ w'.cell? ⟨Be, offe + k * 3 + 1, none⟩ = some (.slice x1 y1 z1) ∧ w'.cell? ⟨Be, offe + k * 3 + 2, none⟩ = some (.slice x2 y2 z2)) := Lib.hid (fun w' hb => hce w' (below_trans HB4.out (below_trans hZ9.out hb)))
                have KNE := Lib.hid (fun w' (hb : Below wi.heap.size wi w') => rneg_few (w := w') (HFE.out.below (below_trans hw3 hb)) (by have := HN.out; omega))
                clear hcr hr hrl hrl0 hce hfe hqe hlr hw3
                go_wp2_with ((with_reducible refine at_store ?_); refine wpList_store_var rfl _ _ _ rfl wi.heap.size rfl _ rfl _ _ (heap_alloc_new _ _) irow rfl row_one ?_; intro w10 h10 hon10; refine halt ?_)
                have hz10 : Below wi.heap.size wi w10 := below_only ((Below.refl _ _).alloc (Nat.le_refl _) _) hon10 (Nat.le_refl _)
                have HT10 := Lib.hid h10
                have RT := Lib.hid (cells_later h10)
                have hT10 := Lib.hid ((hz10.block _ (lt_of_block hT.out)).trans hT.out)
                have RG := Lib.hid (cells_later hT10.out)
                have HB10 := Lib.hid hz10
                have HW10 : Hid (wi.heap.size ≤ w10.heap.size) := Lib.hid hz10.size
                have HL10 := Lib.hid (hL.out.below hz10)
                have HWL : Hid (w9.heap.size ≤ w10.heap.size) := Lib.hid (Nat.le_trans hszi.out hz10.size)
                clear h10 hon10 hz10 f0 f1 f2 f3 f4
                refine go_on ?_
                have hz : Below w10.heap.size w10 w10.drew := below_drewN (Below.refl _ _) 1
                go_wp2_with fail
                refine wp_region_to 11 (fun w' => w'.cell? ⟨T, 0, none⟩ = some (.slice ra3 i rc3) ∧ w'.cell? ⟨wi.heap.size, 0, none⟩ = some (.slice (some ⟨Be, offe, none⟩) rl c1) ∧ w'.cell? ⟨Be, offe + k * 3, none⟩ = some (.bool be) ∧ w'.cell? ⟨Be, offe + k * 3 + 1, none⟩ = some (.slice x1 y1 z1) ∧ w'.cell? ⟨Be, offe + k * 3 + 2, none⟩ = some (.slice x2 y2 z2)) (by kernel_rfl) (by (try dsimp only); refine ⟨?_, ?_, ?_, ?_, ?_⟩ <;> (first | exact RG.out 0 _ rfl _ (by assumption) | exact RT.out 0 _ rfl _ (by assumption) | exact (HCE.out _ (below_trans HB10.out (by assumption))).1 | exact (HCE.out _ (below_trans HB10.out (by assumption))).2.1 | exact (HCE.out _ (below_trans HB10.out (by assumption))).2.2)) (fun hHeld => ?_)
                refine to_take (i := 0) (oi := _) (v := ?_) rfl (by kernel_rfl) (by kernel_rfl) (by kernel_rfl) (fun _ _ _ h => h) (by kernel_rfl) (by decide) (Or.inl ⟨by kernel_rfl, ?_⟩) (by assumption) ?_
                rotate_left
                · intro w hSw
                  (try dsimp only at hSw)
                  go_simp
                  try with_reducible rfl
                try simp only [Act.put, List.getElem_toArray, List.getElem_cons_zero, List.getElem_cons_succ, List.setIfInBounds_toArray, List.set_cons_zero, List.set_cons_succ]
                refine to_take (i := 1) (oi := _) (v := ?_) rfl (by kernel_rfl) (by kernel_rfl) (by kernel_rfl) (fun _ _ _ h => h) (by kernel_rfl) (by decide) (Or.inl ⟨by kernel_rfl, ?_⟩) (by assumption) ?_
                rotate_left
                · intro w hSw
                  (try dsimp only at hSw)
                  go_simp
                  try with_reducible rfl
                try simp only [Act.put, List.getElem_toArray, List.getElem_cons_zero, List.getElem_cons_succ, List.setIfInBounds_toArray, List.set_cons_zero, List.set_cons_succ]
                refine to_take (i := 2) (oi := _) (v := ?_) rfl (by kernel_rfl) (by kernel_rfl) (by kernel_rfl) (fun _ _ _ h => h) (by kernel_rfl) (by decide) (Or.inl ⟨by kernel_rfl, ?_⟩) (by assumption) ?_
                rotate_left
                · intro w hSw
                  (try dsimp only at hSw)
                  go_simp
                  try with_reducible rfl
                try simp only [Act.put, List.getElem_toArray, List.getElem_cons_zero, List.getElem_cons_succ, List.setIfInBounds_toArray, List.set_cons_zero, List.set_cons_succ]
                refine to_take (i := 3) (oi := _) (v := ?_) rfl (by kernel_rfl) (by kernel_rfl) (by kernel_rfl) (fun _ _ _ h => h) (by kernel_rfl) (by decide) (Or.inl ⟨by kernel_rfl, ?_⟩) (by assumption) ?_
                rotate_left
                · intro w hSw
                  (try dsimp only at hSw)
                  go_simp
                  try with_reducible rfl
                try simp only [Act.put, List.getElem_toArray, List.getElem_cons_zero, List.getElem_cons_succ, List.setIfInBounds_toArray, List.set_cons_zero, List.set_cons_succ]
                refine to_take (i := 4) (oi := _) (v := ?_) rfl (by kernel_rfl) (by kernel_rfl) (by kernel_rfl) (fun _ _ _ h => h) (by kernel_rfl) (by decide) (Or.inl ⟨by kernel_rfl, ?_⟩) (by assumption) ?_
                rotate_left
                · intro w hSw
                  (try dsimp only at hSw)
                  go_simp
                  try with_reducible rfl
                try simp only [Act.put, List.getElem_toArray, List.getElem_cons_zero, List.getElem_cons_succ, List.setIfInBounds_toArray, List.set_cons_zero, List.set_cons_succ]
                refine to_take (i := 5) (oi := _) (v := ?_) rfl (by kernel_rfl) (by kernel_rfl) (by kernel_rfl) (fun _ _ _ h => h) (by kernel_rfl) (by decide) (Or.inl ⟨by kernel_rfl, ?_⟩) (by assumption) ?_
                rotate_left
                · intro w hSw
                  (try dsimp only at hSw)
                  go_simp
                  try with_reducible rfl
                try simp only [Act.put, List.getElem_toArray, List.getElem_cons_zero, List.getElem_cons_succ, List.setIfInBounds_toArray, List.set_cons_zero, List.set_cons_succ]
                refine to_take (i := 6) (oi := _) (v := ?_) rfl (by kernel_rfl) (by kernel_rfl) (by kernel_rfl) (fun _ _ _ h => h) (by kernel_rfl) (by decide) (Or.inl ⟨by kernel_rfl, ?_⟩) (by assumption) ?_
                rotate_left
                · intro w hSw
                  (try dsimp only at hSw)
                  go_simp
                  try with_reducible rfl
                try simp only [Act.put, List.getElem_toArray, List.getElem_cons_zero, List.getElem_cons_succ, List.setIfInBounds_toArray, List.set_cons_zero, List.set_cons_succ]
                refine to_ready (rs := [7]) (by kernel_rfl) (by simp) (AllTo.cons (o := _) rfl (fun K hK => ?_) AllTo.nil)
                go_simp
                refine (KNE.out _ (below_trans HB10.out hz)).mono ?_
                rintro en10 w10' ⟨⟨v10, rfl, f10⟩, hb10⟩
                obtain ⟨w11', hw11'⟩ : ∃ x : World, x = w10' := ⟨_, rfl⟩
                rw [← hw11'] at f10 hb10 ⊢
                clear hw11'
                have f10 := fv_few9 f10 (show lenQ (-qe) ≤ (2 * N + 1) from by rw [len_negq]; exact HLE.out) (by have := HN.out; omega)
                obtain ⟨a10, n10, c10, i10, j10, k10, bu, hq10⟩ := few_form f10
                subst hq10
                have hz := below_trans hz hb10
                try go_wp2_with fail
                refine hK.out _ _ (fun _ => ?_) (fun hHeld => ?_)
                · (try dsimp only); refine ⟨?_, ?_, ?_, ?_, ?_⟩ <;> (first | exact RG.out 0 _ rfl _ (by assumption) | exact RT.out 0 _ rfl _ (by assumption) | exact (HCE.out _ (below_trans HB10.out (by assumption))).1 | exact (HCE.out _ (below_trans HB10.out (by assumption))).2.1 | exact (HCE.out _ (below_trans HB10.out (by assumption))).2.2)
                replace hHeld := hHeld (by decide)
                clear hK K
                try simp only [Act.put, List.getElem_toArray, List.getElem_cons_zero, List.getElem_cons_succ, List.setIfInBounds_toArray, List.set_cons_zero, List.set_cons_succ]
                refine to_ready (rs := [8]) (by kernel_rfl) (by simp) (AllTo.cons (o := _) rfl (fun K hK => ?_) AllTo.nil)
                go_simp
                obtain ⟨w11, hw11⟩ : ∃ w', w' = w11'.alloc (Obj.cells #[Value.bool bu, Value.slice a10 n10 c10, Value.slice i10 j10 k10] 43) := ⟨_, rfl⟩
                have hb11 : Below w11'.heap.size w11' w11 := by rw [hw11]; exact (Below.refl _ _).alloc (Nat.le_refl _) _
                have hr11 : w11.heap[w11'.heap.size]? = some (.cells #[Value.bool bu, Value.slice a10 n10 c10, Value.slice i10 j10 k10] 43 (0, 0)) := by rw [hw11]; exact heap_alloc_new w11' _
                rw [← hw11]
                clear hw11
                have hz := below_trans hz hb11
                have f11 := f10.below hb11
                refine hK.out _ _ (fun _ => ?_) (fun hHeld => ?_)
                · (try dsimp only); refine ⟨?_, ?_, ?_, ?_, ?_⟩ <;> (first | exact RG.out 0 _ rfl _ (by assumption) | exact RT.out 0 _ rfl _ (by assumption) | exact (HCE.out _ (below_trans HB10.out (by assumption))).1 | exact (HCE.out _ (below_trans HB10.out (by assumption))).2.1 | exact (HCE.out _ (below_trans HB10.out (by assumption))).2.2)
                replace hHeld := hHeld (by decide)
                clear hK K
                try simp only [Act.put, List.getElem_toArray, List.getElem_cons_zero, List.getElem_cons_succ, List.setIfInBounds_toArray, List.set_cons_zero, List.set_cons_succ]
                refine to_ready (rs := [9]) (by kernel_rfl) (by simp) (AllTo.cons (o := _) rfl (fun K hK => ?_) AllTo.nil)
                rw [if_pos (by kernel_rfl)]
                have HO11 := HL10.out.below hz
                refine oper_push_frac _ _ rfl (2 * N + 1) w9.heap.size (Value.slice ra3 i rc3) _ rfl HO11 w11'.heap.size 1 bu a10 i10 n10 c10 j10 k10 _ rfl hr11 f11 (by rw [List.length_take]; omega) (Nat.le_trans HWL.out hz.size) ?_
                intro v12 w12 hown12 hg12 hbel12 hat12 hold12
                have HB12 : Below w9.heap.size w10 w12 := hbel12 w10 (hz.mono HWL.out)
                have HBi : Below w9.heap.size wi w12 := (HB10.out.mono hszi.out).trans HB12
                have HT12 := (HBi.block _ HTL.out).trans hT.out
                have HX12 := (hg12.block _ (Nat.lt_of_lt_of_le (lt_of_block HT10.out) hz.size) (fun e => by
                  obtain ⟨cs, h1⟩ := HO11.blk _ e.symm
                  have h2 := (hz.block _ (lt_of_block HT10.out)).trans HT10.out
                  rw [h1] at h2
                  simp at h2)).trans ((hz.block _ (lt_of_block HT10.out)).trans HT10.out)
                have HZ12 : Below wo.heap.size wo w12 := hZi.out.trans (HBi.mono HW9.out)
                have HQ12 := few_grown (hQ.out.below (below_trans HB10.out hz)) HO11.clean9 hg12
                rw [HTQ.out.1] at hown12
                obtain ⟨nb, nd, hv12⟩ := hown12.form
                rw [← HTQ.out.1, HTQ.out.2] at hv12
                subst hv12
                have HS12 : w9.heap.size ≤ w12.heap.size := Nat.le_trans (Nat.le_trans HWL.out hz.size) hg12.size
                refine hK.out _ _ (fun _ => ?_) (fun hHeld => ?_)
                · (try dsimp only); refine ⟨?_, ?_, ?_, ?_, ?_⟩ <;> (first | exact cells_later HT12 0 _ rfl _ (Below.refl _ _) | exact cells_later HX12 0 _ rfl _ (Below.refl _ _) | exact (HCEW.out _ HZ12).1 | exact (HCEW.out _ HZ12).2.1 | exact (HCEW.out _ HZ12).2.2)
                replace hHeld := hHeld (by decide)
                clear hK K
                try simp only [Act.put, List.getElem_toArray, List.getElem_cons_zero, List.getElem_cons_succ, List.setIfInBounds_toArray, List.set_cons_zero, List.set_cons_succ]
                refine to_take (i := 10) (oi := _) (v := ?_) rfl (by kernel_rfl) (by kernel_rfl) (by kernel_rfl) (fun _ _ _ h => h) (by kernel_rfl) (by decide) (Or.inl ⟨by kernel_rfl, ?_⟩) (by assumption) ?_
                rotate_left
                · intro w hSw
                  (try dsimp only at hSw)
                  go_simp
                  try with_reducible rfl
                try simp only [Act.put, List.getElem_toArray, List.getElem_cons_zero, List.getElem_cons_succ, List.setIfInBounds_toArray, List.set_cons_zero, List.set_cons_succ]
                refine to_ready (rs := [11]) (by kernel_rfl) (by simp) (AllTo.cons (o := _) rfl (fun K hK => ?_) AllTo.nil)
                have g3 := cells_later HT12 0 _ rfl _ (Below.refl _ _)
                have g4 := frozen_of_row _ _ 0 _ _ HT12
                go_simp
                refine hK.out _ _ (fun h => absurd rfl h) (fun _ => ?_)
                clear hK K
                try simp only [Act.put, List.getElem_toArray, List.getElem_cons_zero, List.getElem_cons_succ, List.setIfInBounds_toArray, List.set_cons_zero, List.set_cons_succ]
                refine to_done (by kernel_rfl) ?_ _
                have HON := setk_only w12 T 0 (Value.slice nb (i + 1) nd)
                have HT13 := Lib.hid (set0_row HT12 (v := Value.slice nb (i + 1) nd))
                have HL13 := Lib.hid (hown12.other HT12 row_nou HON HTL.out)
                have HQ13 := Lib.hid (few_other HQ12 HT12 row_nou HON)
                have HZ13 := Lib.hid (below_only HZ12 HON HTB.out)
                have HS13 : Hid (w9.heap.size ≤ (w12.setCell ⟨T, 0, none⟩ (Value.slice nb (i + 1) nd)).heap.size) := Lib.hid (by rw [HON.size]; exact HS12)
                clear HON HT12 HX12 HZ12 HQ12 HB12 HBi hown12
                go_wp2_with fail
                go_roundw
                case rel => exact ⟨i + 1, _, _, by omega, by go_num, HT13, HL13, HQ13, HZ13, HS13⟩
                case measure => simp [intOf]; omega
              · have t1 : decide ((i : Int) < (j : Int)) = false := by simp; omega
                obtain rfl : i = j := by omega
                have hLF : Hid (LFs (2 * N + 1) wi w9.heap.size (.slice ra3 i rc3) (n.rows.map (fun r => -(nthQ r.1 k)))) := Lib.hid (by
                  have h1 := hL.out
                  rw [List.take_of_length_le (by rw [List.length_map]; have := HNQ.out; omega)] at h1
                  exact h1)
                have HGi := Lib.hid ((hZi.out.block _ (lt_of_block hG9.out)).trans hG9.out)
                have k3 := cells_later HGi.out 3 _ rfl _ (Below.refl _ _)
                have y0 := cells_later hT.out 0 _ rfl _ (Below.refl _ _)
                have y1 := cells_later hT.out 1 _ rfl _ (Below.refl _ _)
                have y2 := cells_later hT.out 2 _ rfl _ (Below.refl _ _)
                have y3 := cells_later hT.out 3 _ rfl _ (Below.refl _ _)
                have y4 := cells_later hT.out 4 _ rfl _ (Below.refl _ _)
                obtain ⟨w10, hw10⟩ : ∃ w10, w10 = wi.alloc (Obj.cells #[Value.slice ra3 i rc3, Value.int .i64 0, Value.bool bu8, Value.slice a8 n8 c8, Value.slice i8 j8 k8] 45) := ⟨_, rfl⟩
                have hb10 : Below wi.heap.size wi w10 := by rw [hw10]; exact (Below.refl _ _).alloc (Nat.le_refl _) _
                have HR10 : Hid (w10.heap[wi.heap.size]? = some (.cells #[Value.slice ra3 i rc3, Value.int .i64 0, Value.bool bu8, Value.slice a8 n8 c8, Value.slice i8 j8 k8] 45 (0, 0))) := Lib.hid (by rw [hw10]; exact heap_alloc_new _ _)
                have HZ10 := Lib.hid (below_trans hZi.out hb10)
                have HO10 := Lib.hid (hO.out.below HZ10.out)
                have HL10 : Hid ((rkF (2 * N + 1)).L w10 (.slice ra3 i rc3) (n.rows.map (fun r => -(nthQ r.1 k)))) := Lib.hid ⟨_, hLF.out.below hb10⟩
                have HF10 := Lib.hid (hQ.out.below hb10)
                have hs10 : Hid (w6.heap.size ≤ w10.heap.size) := Lib.hid (Nat.le_trans hsz9.out HZ10.out.size)
                have HNE : Hid (∀ g, (Value.slice ra3 i rc3).ownBlock = some g → (Value.slice ra2 k rc2).ownBlock ≠ some g ∧ g < w10.heap.size ∧ w6.heap.size ≤ g) := Lib.hid (fun g hg => ⟨fun e => by have h1 := (hLF.out.lt g hg).1; have h2 := (hO.out.lt g e).2; have h3 := HW9.out; omega, Nat.lt_of_lt_of_le (hLF.out.lt g hg).2 hb10.size, by have h1 := (hLF.out.lt g hg).1; have h2 := hsz9.out; have h3 := HW9.out; omega⟩)
                clear hb10
                go_wp2_with (at_builtin; rw [← hw10]; refine wpList_push_row (K := (rkF (2 * N + 1))) rfl _ _ rfl w6.heap.size (Value.slice ra2 k rc2) _ rfl HO10.out wi.heap.size 1 ra3 i rc3 bu8 a8 i8 n8 c8 j8 k8 ((n.rows.map (fun r => -(nthQ r.1 k)), 0, -q) : List Rat × Int × Rat) rfl HR10.out HL10.out HF10.out HNE.out (by rw [List.length_take]; omega) hs10.out ?_; intro v11 w11 hown11 hg11 hbel11 hat11; refine halt ?_)
                rw [← HDR.out, HTK.out.1] at hown11
                have HB11 : Hid (Below w6.heap.size wo w11) := Lib.hid (hbel11 wo (HZ10.out.mono hsz9.out))
                have HG11 := Lib.hid ((HB11.out.block _ HGWO.out).trans hG9.out)
                obtain ⟨na, nc, hv11⟩ := hown11.form
                rw [← HTK.out.1, HTK.out.2] at hv11
                subst hv11
                have HZ11 : Hid (Below w4.heap.size w4 w11) := Lib.hid (hZ9.out.trans (HB11.out.mono HZ6.out.size))
                have HF11 := Lib.hid (hF.out.belowN HFLT.out HB11.out)
                have HD11 := Lib.hid ((rkF (2 * N + 1)).keepL ((rkF (2 * N + 1)).belowL hD9.out HZ10.out) HO10.out.clean hg11 (fun g hg e => by have h1 := (HO10.out.lt g e).1; have h2 := HDLT.out g hg; omega))
                have HS11 : Hid (w6.heap.size ≤ w11.heap.size) := Lib.hid (Nat.le_trans hs10.out hg11.size)
                have g3 := cells_later HG11.out 3 _ rfl _ (Below.refl _ _)
                have g4 := frozen_of_row _ _ 3 _ _ HG11.out
                have HON := Lib.hid (set3_only w11 G (Value.slice na (k + 1) nc))
                have HG12 := Lib.hid (set3_row HG11.out (v := Value.slice na (k + 1) nc))
                have HO12 := Lib.hid (hown11.other HG11.out prog_cells HON.out HGWO.out)
                have HF12 := Lib.hid (HF11.out.other HG11.out prog_nobool HON.out)
                have HD12 := Lib.hid ((rkF (2 * N + 1)).otherL HD11.out HG11.out prog_cells HON.out (fun g hg e => by obtain ⟨cs, h1⟩ := rkF_blk HD11.out g hg; rw [e, HG11.out] at h1; simp at h1))
                have HZ12 := Lib.hid (below_only HZ11.out HON.out HGB.out)
                have HS12 : Hid (w6.heap.size ≤ (w11.setCell ⟨G, 3, none⟩ (Value.slice na (k + 1) nc)).heap.size) := Lib.hid (by rw [HON.out.size]; exact HS11.out)
                clear hown11 hg11 hbel11 hat11 hw10 y0 y1 y2 y3 y4 k3 t0 t1
                refine go_on ?_
                go_wp2_with fail
                go_roundw
                case rel => exact ⟨k + 1, _, _, by omega, by go_num, HG12, HO12, HF12, HD12, HZ12, HS12⟩
                case measure => simp [intOf]; omega
          | false =>
            rw [show (if false = true then (0 : Int) else -1) = -1 from rfl] at HDR
            have HT9 := HT7
            have HF9 := HF7
            have HZ9 := HZ7
            have n3 := RNW.out 3 _ rfl _ HZ7.out
            refine go_on ?_
            go_wp2_with fail
            clear n1 f1 n3
            have HTL : Hid (T < w7.heap.size) := Lib.hid (lt_of_block HT9.out)
            have HW9 : Hid (wo.heap.size ≤ w7.heap.size) := Lib.hid HZ9.out.size
            go_loopw [82] (fun iv wr => ∃ (i : Nat) (ra3 : Option Addr) (rc3 : Nat), i ≤ j ∧ iv = .int .i64 i ∧ Hid (wr.heap[T]? = some (.cells #[Value.slice ra3 i rc3, Value.int .i64 (-1), Value.bool bu8, Value.slice a8 n8 c8, Value.slice i8 j8 k8] 45 (0, 0))) ∧ Hid (LFs (2 * N + 1) wr w7.heap.size (.slice ra3 i rc3) ((n.rows.map (fun r => -(nthQ r.1 k))).take i)) ∧ Hid (FewF (2 * N + 1) wr (.agg #[.bool bu8, .slice a8 n8 c8, .slice i8 j8 k8]) (-q)) ∧ Hid (Below wo.heap.size wo wr) ∧ Hid (w7.heap.size ≤ wr.heap.size)) (fun iv _ => j - (intOf iv).toNat)
            case atStart => exact ⟨0, none, 0, Nat.zero_le _, rfl, HT9, Lib.hid (LFs.nil _ _ _), HF9, HZ9, Lib.hid (Nat.le_refl _)⟩
            case round =>
              obtain ⟨i, ra3, rc3, hi, rfl, hT, hL, hQ, hZi, hszi⟩ := hrel
              obtain ⟨wi, rfl⟩ : ∃ wi : World, wi = wr := ⟨_, rfl⟩
              by_cases hin : i < j
              · have t1 : decide ((i : Int) < (j : Int)) = true := by simp; omega
                obtain ⟨r, B, off, a1, c1, b, a2, n2, c2, a3, n3, c3, hr, ha, hlr, -, -, -, hcr⟩ := HRF.out.at (i := i) (by have := HNQ.out; omega)
                subst ha
                have hw3 := below_trans HB4.out (below_trans hZ9.out hZi.out)
                obtain ⟨f0, f1, f2, f3, f4⟩ := hcr wi hw3
                have hrl0 := HVL.out i r hr
                obtain ⟨rl, hrl⟩ : ∃ x, x = r.1.length := ⟨_, rfl⟩
                rw [← hrl] at f0 hlr
                have hkr : k < rl := by omega
                obtain ⟨qe, Be, offe, be, x1, y1, z1, x2, y2, z2, hqe, hae, hce, hfe⟩ := hlr.at hkr
                subst hae
                have HTQ := Lib.hid (neg_take (f := fun r : List Rat × Int × Rat => nthQ r.1 k) hr)
                have HTQ := Lib.hid (neg_take (f := fun r : List Rat × Int × Rat => -(nthQ r.1 k)) hr)
                simp only [nthQ_of hqe] at HTQ
                have HLE : Hid (lenQ qe ≤ (2 * N + 1)) := Lib.hid (by rw [← nthQ_of hqe]; exact (HSN9.out.2 i r hr).1 k (by omega))
                have HFE := Lib.hid hfe
                have HCE : Hid (∀ w', Below wi.heap.size wi w' → w'.cell? ⟨Be, offe + k * 3, none⟩ = some (.bool be) ∧ w'.cell? ⟨Be, offe + k * 3 + 1, none⟩ = some (.slice x1 y1 z1) ∧ w'.cell? ⟨Be, offe + k * 3 + 2, none⟩ = some (.slice x2 y2 z2)) := Lib.hid (fun w' hb => hce w' (below_trans hw3 hb))
                have HCEW : Hid (∀ w', Below wo.heap.size wo w' → w'.cell? ⟨Be, offe + k * 3, none⟩ = some (.bool be) ∧ w'.cell? ⟨Be, offe + k * 3 + 1, none⟩ = some (.slice x1 y1 z1) ∧ w'.cell? ⟨Be, offe + k * 3 + 2, none⟩ = some (.slice x2 y2 z2)) := Lib.hid (fun w' hb => hce w' (below_trans HB4.out (below_trans hZ9.out hb)))
                have KNE := Lib.hid (fun w' (hb : Below wi.heap.size wi w') => rneg_few (w := w') (HFE.out.below (below_trans hw3 hb)) (by have := HN.out; omega))
                clear hcr hr hrl hrl0 hce hfe hqe hlr hw3
                go_wp2_with ((with_reducible refine at_store ?_); refine wpList_store_var rfl _ _ _ rfl wi.heap.size rfl _ rfl _ _ (heap_alloc_new _ _) irow rfl row_one ?_; intro w10 h10 hon10; refine halt ?_)
                have hz10 : Below wi.heap.size wi w10 := below_only ((Below.refl _ _).alloc (Nat.le_refl _) _) hon10 (Nat.le_refl _)
                have HT10 := Lib.hid h10
                have RT := Lib.hid (cells_later h10)
                have hT10 := Lib.hid ((hz10.block _ (lt_of_block hT.out)).trans hT.out)
                have RG := Lib.hid (cells_later hT10.out)
                have HB10 := Lib.hid hz10
                have HW10 : Hid (wi.heap.size ≤ w10.heap.size) := Lib.hid hz10.size
                have HL10 := Lib.hid (hL.out.below hz10)
                have HWL : Hid (w7.heap.size ≤ w10.heap.size) := Lib.hid (Nat.le_trans hszi.out hz10.size)
                clear h10 hon10 hz10 f0 f1 f2 f3 f4
                refine go_on ?_
                have hz : Below w10.heap.size w10 w10.drew := below_drewN (Below.refl _ _) 1
                go_wp2_with fail
                refine wp_region_to 11 (fun w' => w'.cell? ⟨T, 0, none⟩ = some (.slice ra3 i rc3) ∧ w'.cell? ⟨wi.heap.size, 0, none⟩ = some (.slice (some ⟨Be, offe, none⟩) rl c1) ∧ w'.cell? ⟨Be, offe + k * 3, none⟩ = some (.bool be) ∧ w'.cell? ⟨Be, offe + k * 3 + 1, none⟩ = some (.slice x1 y1 z1) ∧ w'.cell? ⟨Be, offe + k * 3 + 2, none⟩ = some (.slice x2 y2 z2)) (by kernel_rfl) (by (try dsimp only); refine ⟨?_, ?_, ?_, ?_, ?_⟩ <;> (first | exact RG.out 0 _ rfl _ (by assumption) | exact RT.out 0 _ rfl _ (by assumption) | exact (HCE.out _ (below_trans HB10.out (by assumption))).1 | exact (HCE.out _ (below_trans HB10.out (by assumption))).2.1 | exact (HCE.out _ (below_trans HB10.out (by assumption))).2.2)) (fun hHeld => ?_)
                refine to_take (i := 0) (oi := _) (v := ?_) rfl (by kernel_rfl) (by kernel_rfl) (by kernel_rfl) (fun _ _ _ h => h) (by kernel_rfl) (by decide) (Or.inl ⟨by kernel_rfl, ?_⟩) (by assumption) ?_
                rotate_left
                · intro w hSw
                  (try dsimp only at hSw)
                  go_simp
                  try with_reducible rfl
                try simp only [Act.put, List.getElem_toArray, List.getElem_cons_zero, List.getElem_cons_succ, List.setIfInBounds_toArray, List.set_cons_zero, List.set_cons_succ]
                refine to_take (i := 1) (oi := _) (v := ?_) rfl (by kernel_rfl) (by kernel_rfl) (by kernel_rfl) (fun _ _ _ h => h) (by kernel_rfl) (by decide) (Or.inl ⟨by kernel_rfl, ?_⟩) (by assumption) ?_
                rotate_left
                · intro w hSw
                  (try dsimp only at hSw)
                  go_simp
                  try with_reducible rfl
                try simp only [Act.put, List.getElem_toArray, List.getElem_cons_zero, List.getElem_cons_succ, List.setIfInBounds_toArray, List.set_cons_zero, List.set_cons_succ]
                refine to_take (i := 2) (oi := _) (v := ?_) rfl (by kernel_rfl) (by kernel_rfl) (by kernel_rfl) (fun _ _ _ h => h) (by kernel_rfl) (by decide) (Or.inl ⟨by kernel_rfl, ?_⟩) (by assumption) ?_
                rotate_left
                · intro w hSw
                  (try dsimp only at hSw)
                  go_simp
                  try with_reducible rfl
                try simp only [Act.put, List.getElem_toArray, List.getElem_cons_zero, List.getElem_cons_succ, List.setIfInBounds_toArray, List.set_cons_zero, List.set_cons_succ]
                refine to_take (i := 3) (oi := _) (v := ?_) rfl (by kernel_rfl) (by kernel_rfl) (by kernel_rfl) (fun _ _ _ h => h) (by kernel_rfl) (by decide) (Or.inl ⟨by kernel_rfl, ?_⟩) (by assumption) ?_
                rotate_left
                · intro w hSw
                  (try dsimp only at hSw)
                  go_simp
                  try with_reducible rfl
                try simp only [Act.put, List.getElem_toArray, List.getElem_cons_zero, List.getElem_cons_succ, List.setIfInBounds_toArray, List.set_cons_zero, List.set_cons_succ]
                refine to_take (i := 4) (oi := _) (v := ?_) rfl (by kernel_rfl) (by kernel_rfl) (by kernel_rfl) (fun _ _ _ h => h) (by kernel_rfl) (by decide) (Or.inl ⟨by kernel_rfl, ?_⟩) (by assumption) ?_
                rotate_left
                · intro w hSw
                  (try dsimp only at hSw)
                  go_simp
                  try with_reducible rfl
                try simp only [Act.put, List.getElem_toArray, List.getElem_cons_zero, List.getElem_cons_succ, List.setIfInBounds_toArray, List.set_cons_zero, List.set_cons_succ]
                refine to_take (i := 5) (oi := _) (v := ?_) rfl (by kernel_rfl) (by kernel_rfl) (by kernel_rfl) (fun _ _ _ h => h) (by kernel_rfl) (by decide) (Or.inl ⟨by kernel_rfl, ?_⟩) (by assumption) ?_
                rotate_left
                · intro w hSw
                  (try dsimp only at hSw)
                  go_simp
                  try with_reducible rfl
                try simp only [Act.put, List.getElem_toArray, List.getElem_cons_zero, List.getElem_cons_succ, List.setIfInBounds_toArray, List.set_cons_zero, List.set_cons_succ]
                refine to_take (i := 6) (oi := _) (v := ?_) rfl (by kernel_rfl) (by kernel_rfl) (by kernel_rfl) (fun _ _ _ h => h) (by kernel_rfl) (by decide) (Or.inl ⟨by kernel_rfl, ?_⟩) (by assumption) ?_
                rotate_left
                · intro w hSw
                  (try dsimp only at hSw)
                  go_simp
                  try with_reducible rfl
                try simp only [Act.put, List.getElem_toArray, List.getElem_cons_zero, List.getElem_cons_succ, List.setIfInBounds_toArray, List.set_cons_zero, List.set_cons_succ]
                refine to_ready (rs := [7]) (by kernel_rfl) (by simp) (AllTo.cons (o := _) rfl (fun K hK => ?_) AllTo.nil)
                go_simp
                refine (KNE.out _ (below_trans HB10.out hz)).mono ?_
                rintro en10 w10' ⟨⟨v10, rfl, f10⟩, hb10⟩
                obtain ⟨w11', hw11'⟩ : ∃ x : World, x = w10' := ⟨_, rfl⟩
                rw [← hw11'] at f10 hb10 ⊢
                clear hw11'
                have f10 := fv_few9 f10 (show lenQ (-qe) ≤ (2 * N + 1) from by rw [len_negq]; exact HLE.out) (by have := HN.out; omega)
                obtain ⟨a10, n10, c10, i10, j10, k10, bu, hq10⟩ := few_form f10
                subst hq10
                have hz := below_trans hz hb10
                try go_wp2_with fail
                refine hK.out _ _ (fun _ => ?_) (fun hHeld => ?_)
                · (try dsimp only); refine ⟨?_, ?_, ?_, ?_, ?_⟩ <;> (first | exact RG.out 0 _ rfl _ (by assumption) | exact RT.out 0 _ rfl _ (by assumption) | exact (HCE.out _ (below_trans HB10.out (by assumption))).1 | exact (HCE.out _ (below_trans HB10.out (by assumption))).2.1 | exact (HCE.out _ (below_trans HB10.out (by assumption))).2.2)
                replace hHeld := hHeld (by decide)
                clear hK K
                try simp only [Act.put, List.getElem_toArray, List.getElem_cons_zero, List.getElem_cons_succ, List.setIfInBounds_toArray, List.set_cons_zero, List.set_cons_succ]
                refine to_ready (rs := [8]) (by kernel_rfl) (by simp) (AllTo.cons (o := _) rfl (fun K hK => ?_) AllTo.nil)
                go_simp
                obtain ⟨w11, hw11⟩ : ∃ w', w' = w11'.alloc (Obj.cells #[Value.bool bu, Value.slice a10 n10 c10, Value.slice i10 j10 k10] 43) := ⟨_, rfl⟩
                have hb11 : Below w11'.heap.size w11' w11 := by rw [hw11]; exact (Below.refl _ _).alloc (Nat.le_refl _) _
                have hr11 : w11.heap[w11'.heap.size]? = some (.cells #[Value.bool bu, Value.slice a10 n10 c10, Value.slice i10 j10 k10] 43 (0, 0)) := by rw [hw11]; exact heap_alloc_new w11' _
                rw [← hw11]
                clear hw11
                have hz := below_trans hz hb11
                have f11 := f10.below hb11
                refine hK.out _ _ (fun _ => ?_) (fun hHeld => ?_)
                · (try dsimp only); refine ⟨?_, ?_, ?_, ?_, ?_⟩ <;> (first | exact RG.out 0 _ rfl _ (by assumption) | exact RT.out 0 _ rfl _ (by assumption) | exact (HCE.out _ (below_trans HB10.out (by assumption))).1 | exact (HCE.out _ (below_trans HB10.out (by assumption))).2.1 | exact (HCE.out _ (below_trans HB10.out (by assumption))).2.2)
                replace hHeld := hHeld (by decide)
                clear hK K
                try simp only [Act.put, List.getElem_toArray, List.getElem_cons_zero, List.getElem_cons_succ, List.setIfInBounds_toArray, List.set_cons_zero, List.set_cons_succ]
                refine to_ready (rs := [9]) (by kernel_rfl) (by simp) (AllTo.cons (o := _) rfl (fun K hK => ?_) AllTo.nil)
                rw [if_pos (by kernel_rfl)]
                have HO11 := HL10.out.below hz
                refine oper_push_frac _ _ rfl (2 * N + 1) w7.heap.size (Value.slice ra3 i rc3) _ rfl HO11 w11'.heap.size 1 bu a10 i10 n10 c10 j10 k10 _ rfl hr11 f11 (by rw [List.length_take]; omega) (Nat.le_trans HWL.out hz.size) ?_
                intro v12 w12 hown12 hg12 hbel12 hat12 hold12
                have HB12 : Below w7.heap.size w10 w12 := hbel12 w10 (hz.mono HWL.out)
                have HBi : Below w7.heap.size wi w12 := (HB10.out.mono hszi.out).trans HB12
                have HT12 := (HBi.block _ HTL.out).trans hT.out
                have HX12 := (hg12.block _ (Nat.lt_of_lt_of_le (lt_of_block HT10.out) hz.size) (fun e => by
                  obtain ⟨cs, h1⟩ := HO11.blk _ e.symm
                  have h2 := (hz.block _ (lt_of_block HT10.out)).trans HT10.out
                  rw [h1] at h2
                  simp at h2)).trans ((hz.block _ (lt_of_block HT10.out)).trans HT10.out)
                have HZ12 : Below wo.heap.size wo w12 := hZi.out.trans (HBi.mono HW9.out)
                have HQ12 := few_grown (hQ.out.below (below_trans HB10.out hz)) HO11.clean9 hg12
                rw [HTQ.out.1] at hown12
                obtain ⟨nb, nd, hv12⟩ := hown12.form
                rw [← HTQ.out.1, HTQ.out.2] at hv12
                subst hv12
                have HS12 : w7.heap.size ≤ w12.heap.size := Nat.le_trans (Nat.le_trans HWL.out hz.size) hg12.size
                refine hK.out _ _ (fun _ => ?_) (fun hHeld => ?_)
                · (try dsimp only); refine ⟨?_, ?_, ?_, ?_, ?_⟩ <;> (first | exact cells_later HT12 0 _ rfl _ (Below.refl _ _) | exact cells_later HX12 0 _ rfl _ (Below.refl _ _) | exact (HCEW.out _ HZ12).1 | exact (HCEW.out _ HZ12).2.1 | exact (HCEW.out _ HZ12).2.2)
                replace hHeld := hHeld (by decide)
                clear hK K
                try simp only [Act.put, List.getElem_toArray, List.getElem_cons_zero, List.getElem_cons_succ, List.setIfInBounds_toArray, List.set_cons_zero, List.set_cons_succ]
                refine to_take (i := 10) (oi := _) (v := ?_) rfl (by kernel_rfl) (by kernel_rfl) (by kernel_rfl) (fun _ _ _ h => h) (by kernel_rfl) (by decide) (Or.inl ⟨by kernel_rfl, ?_⟩) (by assumption) ?_
                rotate_left
                · intro w hSw
                  (try dsimp only at hSw)
                  go_simp
                  try with_reducible rfl
                try simp only [Act.put, List.getElem_toArray, List.getElem_cons_zero, List.getElem_cons_succ, List.setIfInBounds_toArray, List.set_cons_zero, List.set_cons_succ]
                refine to_ready (rs := [11]) (by kernel_rfl) (by simp) (AllTo.cons (o := _) rfl (fun K hK => ?_) AllTo.nil)
                have g3 := cells_later HT12 0 _ rfl _ (Below.refl _ _)
                have g4 := frozen_of_row _ _ 0 _ _ HT12
                go_simp
                refine hK.out _ _ (fun h => absurd rfl h) (fun _ => ?_)
                clear hK K
                try simp only [Act.put, List.getElem_toArray, List.getElem_cons_zero, List.getElem_cons_succ, List.setIfInBounds_toArray, List.set_cons_zero, List.set_cons_succ]
                refine to_done (by kernel_rfl) ?_ _
                have HON := setk_only w12 T 0 (Value.slice nb (i + 1) nd)
                have HT13 := Lib.hid (set0_row HT12 (v := Value.slice nb (i + 1) nd))
                have HL13 := Lib.hid (hown12.other HT12 row_nou HON HTL.out)
                have HQ13 := Lib.hid (few_other HQ12 HT12 row_nou HON)
                have HZ13 := Lib.hid (below_only HZ12 HON HTB.out)
                have HS13 : Hid (w7.heap.size ≤ (w12.setCell ⟨T, 0, none⟩ (Value.slice nb (i + 1) nd)).heap.size) := Lib.hid (by rw [HON.size]; exact HS12)
                clear HON HT12 HX12 HZ12 HQ12 HB12 HBi hown12
                go_wp2_with fail
                go_roundw
                case rel => exact ⟨i + 1, _, _, by omega, by go_num, HT13, HL13, HQ13, HZ13, HS13⟩
                case measure => simp [intOf]; omega
              · have t1 : decide ((i : Int) < (j : Int)) = false := by simp; omega
                obtain rfl : i = j := by omega
                have hLF : Hid (LFs (2 * N + 1) wi w7.heap.size (.slice ra3 i rc3) (n.rows.map (fun r => -(nthQ r.1 k)))) := Lib.hid (by
                  have h1 := hL.out
                  rw [List.take_of_length_le (by rw [List.length_map]; have := HNQ.out; omega)] at h1
                  exact h1)
                have HGi := Lib.hid ((hZi.out.block _ (lt_of_block hG9.out)).trans hG9.out)
                have k3 := cells_later HGi.out 3 _ rfl _ (Below.refl _ _)
                have y0 := cells_later hT.out 0 _ rfl _ (Below.refl _ _)
                have y1 := cells_later hT.out 1 _ rfl _ (Below.refl _ _)
                have y2 := cells_later hT.out 2 _ rfl _ (Below.refl _ _)
                have y3 := cells_later hT.out 3 _ rfl _ (Below.refl _ _)
                have y4 := cells_later hT.out 4 _ rfl _ (Below.refl _ _)
                obtain ⟨w10, hw10⟩ : ∃ w10, w10 = wi.alloc (Obj.cells #[Value.slice ra3 i rc3, Value.int .i64 (-1), Value.bool bu8, Value.slice a8 n8 c8, Value.slice i8 j8 k8] 45) := ⟨_, rfl⟩
                have hb10 : Below wi.heap.size wi w10 := by rw [hw10]; exact (Below.refl _ _).alloc (Nat.le_refl _) _
                have HR10 : Hid (w10.heap[wi.heap.size]? = some (.cells #[Value.slice ra3 i rc3, Value.int .i64 (-1), Value.bool bu8, Value.slice a8 n8 c8, Value.slice i8 j8 k8] 45 (0, 0))) := Lib.hid (by rw [hw10]; exact heap_alloc_new _ _)
                have HZ10 := Lib.hid (below_trans hZi.out hb10)
                have HO10 := Lib.hid (hO.out.below HZ10.out)
                have HL10 : Hid ((rkF (2 * N + 1)).L w10 (.slice ra3 i rc3) (n.rows.map (fun r => -(nthQ r.1 k)))) := Lib.hid ⟨_, hLF.out.below hb10⟩
                have HF10 := Lib.hid (hQ.out.below hb10)
                have hs10 : Hid (w6.heap.size ≤ w10.heap.size) := Lib.hid (Nat.le_trans hsz9.out HZ10.out.size)
                have HNE : Hid (∀ g, (Value.slice ra3 i rc3).ownBlock = some g → (Value.slice ra2 k rc2).ownBlock ≠ some g ∧ g < w10.heap.size ∧ w6.heap.size ≤ g) := Lib.hid (fun g hg => ⟨fun e => by have h1 := (hLF.out.lt g hg).1; have h2 := (hO.out.lt g e).2; have h3 := HW9.out; omega, Nat.lt_of_lt_of_le (hLF.out.lt g hg).2 hb10.size, by have h1 := (hLF.out.lt g hg).1; have h2 := hsz9.out; have h3 := HW9.out; omega⟩)
                clear hb10
                go_wp2_with (at_builtin; rw [← hw10]; refine wpList_push_row (K := (rkF (2 * N + 1))) rfl _ _ rfl w6.heap.size (Value.slice ra2 k rc2) _ rfl HO10.out wi.heap.size 1 ra3 i rc3 bu8 a8 i8 n8 c8 j8 k8 ((n.rows.map (fun r => -(nthQ r.1 k)), (-1), -q) : List Rat × Int × Rat) rfl HR10.out HL10.out HF10.out HNE.out (by rw [List.length_take]; omega) hs10.out ?_; intro v11 w11 hown11 hg11 hbel11 hat11; refine halt ?_)
                rw [← HDR.out, HTK.out.1] at hown11
                have HB11 : Hid (Below w6.heap.size wo w11) := Lib.hid (hbel11 wo (HZ10.out.mono hsz9.out))
                have HG11 := Lib.hid ((HB11.out.block _ HGWO.out).trans hG9.out)
                obtain ⟨na, nc, hv11⟩ := hown11.form
                rw [← HTK.out.1, HTK.out.2] at hv11
                subst hv11
                have HZ11 : Hid (Below w4.heap.size w4 w11) := Lib.hid (hZ9.out.trans (HB11.out.mono HZ6.out.size))
                have HF11 := Lib.hid (hF.out.belowN HFLT.out HB11.out)
                have HD11 := Lib.hid ((rkF (2 * N + 1)).keepL ((rkF (2 * N + 1)).belowL hD9.out HZ10.out) HO10.out.clean hg11 (fun g hg e => by have h1 := (HO10.out.lt g e).1; have h2 := HDLT.out g hg; omega))
                have HS11 : Hid (w6.heap.size ≤ w11.heap.size) := Lib.hid (Nat.le_trans hs10.out hg11.size)
                have g3 := cells_later HG11.out 3 _ rfl _ (Below.refl _ _)
                have g4 := frozen_of_row _ _ 3 _ _ HG11.out
                have HON := Lib.hid (set3_only w11 G (Value.slice na (k + 1) nc))
                have HG12 := Lib.hid (set3_row HG11.out (v := Value.slice na (k + 1) nc))
                have HO12 := Lib.hid (hown11.other HG11.out prog_cells HON.out HGWO.out)
                have HF12 := Lib.hid (HF11.out.other HG11.out prog_nobool HON.out)
                have HD12 := Lib.hid ((rkF (2 * N + 1)).otherL HD11.out HG11.out prog_cells HON.out (fun g hg e => by obtain ⟨cs, h1⟩ := rkF_blk HD11.out g hg; rw [e, HG11.out] at h1; simp at h1))
                have HZ12 := Lib.hid (below_only HZ11.out HON.out HGB.out)
                have HS12 : Hid (w6.heap.size ≤ (w11.setCell ⟨G, 3, none⟩ (Value.slice na (k + 1) nc)).heap.size) := Lib.hid (by rw [HON.out.size]; exact HS11.out)
                clear hown11 hg11 hbel11 hat11 hw10 y0 y1 y2 y3 y4 k3 t0 t1
                refine go_on ?_
                go_wp2_with fail
                go_roundw
                case rel => exact ⟨k + 1, _, _, by omega, by go_num, HG12, HO12, HF12, HD12, HZ12, HS12⟩
                case measure => simp [intOf]; omega
        · have t0 : decide ((k : Int) < (fn : Int)) = false := by simp; omega
          obtain rfl : k = fn := by omega
          have HR9 := ((below_trans HZ4.out hZ9.out).block _ (lt_of_block HO1.out)).trans HO1.out
          have hlow : w.heap.size + 1 < w6.heap.size := Nat.lt_of_lt_of_le (lt_of_block HO1.out) (below_trans HZ4.out HZ6.out).size
          have g0 := cells_later hG9.out 0 _ rfl _ (Below.refl _ _)
          have g1 := cells_later hG9.out 1 _ rfl _ (Below.refl _ _)
          have g2 := cells_later hG9.out 2 _ rfl _ (Below.refl _ _)
          have g3 := cells_later hG9.out 3 _ rfl _ (Below.refl _ _)
          go_wp2_with ((with_reducible refine at_store ?_); refine wpList_store_var rfl _ _ _ rfl (w.heap.size + 1) rfl _ rfl _ _ HR9 info_prog9 rfl prog_one ?_; intro w7 h7 hon7; refine halt ?_)
          refine go_on ?_
          have HO7 := hO.out.other HR9 prog_cells hon7 hlow
          rw [List.take_of_length_le (by rw [List.length_map, List.length_range]; have := HNQ.out; omega)] at HO7
          have HF7 := hF.out.other HR9 prog_nobool hon7
          have HL7 := (rkF (2 * N + 1)).otherL hD9.out HR9 prog_cells hon7 (fun g hg e => by obtain ⟨cs, h1⟩ := rkF_blk hD9.out g hg; rw [e, HR9] at h1; simp at h1)
          go_wp2_with fail
          refine bodyPost_ret (results_row_tmp rfl _ _ (w.heap.size + 1) _ _ _ _ rfl h7 Tryz.underlying26 rfl info_prog9) rfl ⟨⟨_, rfl, fa2, fc2, ga2, gc2, ra2, rc2, w6.heap.size, ?_, HF7, ?_, ?_, Nat.le_trans (by omega) (Nat.le_of_lt hlow), HFLT.out, ?_, by rw [hon7.size]; exact hsz9.out⟩, ?_⟩
          · show _ = Value.agg #[.int .i64 (n.rows.length : Nat), .slice fa2 (n.rows.map (fun r => decide (r.2.1 = 0))).length fc2, .slice ga2 (n.rows.map (fun r => -r.2.2)).length gc2, .slice ra2 ((List.range n.goal.length).map (dualR n)).length rc2]
            rw [List.length_map, List.length_map, List.length_map, List.length_range, HNQ.out.2.2.2, HNQ.out.2.2.1]
          · show (rkF (2 * N + 1)).L _ (.slice ga2 (n.rows.map (fun r => -r.2.2)).length gc2) (n.rows.map (fun r => -r.2.2))
            rw [List.length_map, HNQ.out.2.2.2]
            exact HL7
          · show LRo (rkF (2 * N + 1)) _ w6.heap.size (.slice ra2 ((List.range n.goal.length).map (dualR n)).length rc2) ((List.range n.goal.length).map (dualR n))
            rw [List.length_map, List.length_range, show Value.slice ra2 n.goal.length rc2 = Value.slice ra2 k rc2 from by rw [HNQ.out.2.2.1]]
            exact HO7
          · show ∀ g, (Value.slice ga2 (n.rows.map (fun r => -r.2.2)).length gc2).ownBlock = some g → g < w6.heap.size
            rw [List.length_map, HNQ.out.2.2.2]
            exact HDLT.out
          · exact below_only (below_trans HB1.out (below_trans HZ4.out hZ9.out)) hon7 (Nat.le_succ _)
end Go.Proofs.YtafenoohjcpjgaaGreat
