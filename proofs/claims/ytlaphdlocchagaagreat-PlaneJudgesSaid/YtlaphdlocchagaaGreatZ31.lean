/- Several texts in one: K1. -/
import Derived.Test.YtlaphdlocchagaaGreatZ30
import Derived.Deep.RegionHeld3
import Derived.Deep.DrawnRows
/- Sums of what readers of right sides and of columns read, times numbers. -/
namespace Go.Proofs.YtlaphdlocchagaaGreat
open Go.RowKit
attribute [local go_sem ↓] Go.wp_at_zero Go.wp_at_succ

set_option maxRecDepth 100000 in
set_option maxHeartbeats 8000000 in
theorem psides_w {N : Nat} {w : World} {p : Nat} {a' : Option Addr} {n' c' : Nat} {g : Nat → Rat} {qs : List Rat}
    (HG : ∀ (i : Nat) (w' : World), i < n' → Below w.heap.size w w' → Calls Tryz.prog 71 #[.int .i64 (i : Nat), Value.pointer (some ⟨p, 0, none⟩)] w' (ReadPost N w w' (g i))) (hl' : ListF N w (.slice a' n' c') qs) (hN : N ≤ 50) (hn : n' ≤ 100) (hNn : N * n' ≤ 1000) :
    Calls Tryz.prog 25 #[.func (.func 71) #[] #[Value.pointer (some ⟨p, 0, none⟩)], .slice a' n' c'] w (RTell w (sumR (fun i => g i * nthQ qs i) 0 n')) := by
  have HGH := Lib.hid HG
  obtain ⟨w1, hw1⟩ : ∃ w1, w1 = w.alloc (Obj.cells #[Value.bool false, Value.slice none 0 0, Value.slice none 0 0] 47) := ⟨_, rfl⟩
  have HB1 : Hid (Below w.heap.size w w1) := Lib.hid (by rw [hw1]; exact (Below.refl _ _).alloc (Nat.le_refl _) _)
  have HR1 : Hid (w1.heap[w.heap.size]? = some (.cells #[Value.bool false, Value.slice none 0 0, Value.slice none 0 0] 47 (0, 0))) := Lib.hid (by rw [hw1]; exact heap_alloc_new w _)
  have HW1 := Lib.hid hw1.symm
  have HL' := Lib.hid (hl'.below HB1.out)
  have HNN := Lib.hid hNn
  have hn'100 : n' ≤ 100 := by omega
  obtain ⟨T, hT⟩ : ∃ T : Nat → Rat, T = fun i => g i * nthQ qs i := ⟨_, rfl⟩
  have HT : Hid (∀ i, T i = g i * nthQ qs i) := Lib.hid (fun i => by rw [hT])
  rw [← hT]
  have KG := Lib.hid (fun w' i (hi : i < n') (hb : Below w1.heap.size w1 w') => HGH.out i w' hi (below_trans HB1.out hb))
  clear hw1 HG hl' hNn hT
  go_enter Tryz.func25, Tryz.ntmps25
  go_wp2_with fail
  rw [HW1.out]
  go_loopw [5, 6, 12] (fun av bv iv wr => ∃ (i k : Nat) (oa ob : Option Addr) (oc od : Nat) (ps rs : List Rat), i ≤ n' ∧ k ≤ i ∧ iv = .int .i64 i ∧ av = .slice oa k oc ∧ bv = .slice ob k od ∧ Hid (ps.length = k ∧ rs.length = k) ∧ Hid (LFs N wr w1.heap.size (.slice oa k oc) ps) ∧ Hid (LFs N wr w1.heap.size (.slice ob k od) rs) ∧
    Hid (∀ g, (Value.slice oa k oc).ownBlock = some g → (Value.slice ob k od).ownBlock ≠ some g) ∧ Hid (sumR (fun j => nthQ ps j * nthQ rs j) 0 k = sumR T 0 i) ∧ Hid (Below w1.heap.size w1 wr)) (fun _ _ iv _ => n' - (intOf iv).toNat)
  case atStart => exact ⟨0, 0, none, none, 0, 0, [], [], Nat.zero_le _, Nat.le_refl _, rfl, rfl, rfl, Lib.hid ⟨rfl, rfl⟩, Lib.hid (LFs.nil _ _ _), Lib.hid (LFs.nil _ _ _), Lib.hid (fun g h => by simp [Value.ownBlock] at h), Lib.hid rfl, Lib.hid (Below.refl _ _)⟩
  case round =>
    obtain ⟨i, k, oa, ob, oc, od, ps, rs, hi, hki, rfl, rfl, rfl, hlen, hA, hB, hne, hsum, hZ⟩ := hrel
    obtain ⟨wo, rfl⟩ : ∃ wo : World, wo = wr := ⟨_, rfl⟩
    by_cases hin : i < n'
    · have t0 : decide ((i : Int) < (n' : Int)) = true := by simp; omega
      obtain ⟨q, B, off, b, a1, n1, c1, a2, n2, c2, hq, ha, hc, hf⟩ := HL'.out.at hin
      subst ha
      obtain ⟨x0, x1, x2⟩ := hc wo hZ.out
      have HF := Lib.hid hf
      have HQ := Lib.hid (nthQ_of hq)
      clear hc hf hq
      go_wp2_with ((with_reducible refine at_store ?_); refine wpList_store_var rfl _ _ _ rfl wo.heap.size rfl _ rfl _ _ (heap_alloc_new _ _) ifrac rfl frac_one ?_; intro w4 h4 hon4; refine halt ?_)
      have hb4 : Below wo.heap.size wo w4 := below_only ((Below.refl _ _).alloc (Nat.le_refl _) _) hon4 (Nat.le_refl _)
      have HB4 := Lib.hid (below_trans hZ.out hb4)
      have HO4 := Lib.hid hb4
      have RY := Lib.hid (cells_later h4)
      have HRY4 := Lib.hid h4
      have K := Lib.hid (KG.out w4 i hin HB4.out)
      clear h4 hon4 hb4 x0 x1 x2
      refine go_on ?_
      go_wp2_with fail
      refine K.out.mono ?_
      rintro en5 w5 ⟨⟨b5, a5, n5, c5, i5, j5, k5, rfl, f5⟩, hb5⟩
      have HF5 := Lib.hid (f5.below HB1.out)
      have HB5 := Lib.hid hb5
      clear f5
      go_wp2_with ((with_reducible refine at_store ?_); refine wpList_store_var rfl _ _ _ rfl w5.heap.size rfl _ rfl _ _ (heap_alloc_new _ _) ifrac rfl frac_one ?_; intro w6 h6 hon6; refine halt ?_)
      have hb6 : Below w5.heap.size w5 w6 := below_only ((Below.refl _ _).alloc (Nat.le_refl _) _) hon6 (Nat.le_refl _)
      have HZ6 := Lib.hid (below_trans HB4.out (below_trans hb5 hb6))
      have HO6 := Lib.hid (below_trans HO4.out (below_trans hb5 hb6))
      have RG := Lib.hid (cells_later h6)
      have HY6 := Lib.hid (below_trans hb5 hb6)
      have hz6 := Below.refl w6.heap.size w6
      have y0 := RY.out 0 _ rfl _ HY6.out
      have y1 := RY.out 1 _ rfl _ HY6.out
      have y2 := RY.out 2 _ rfl _ HY6.out
      have g0 := RG.out 0 _ rfl _ hz6
      have g1 := RG.out 1 _ rfl _ hz6
      have g2 := RG.out 2 _ rfl _ hz6
      have HRG := Lib.hid h6
      have HRY : Hid (w6.heap[wo.heap.size]? = some (.cells #[Value.bool b, Value.slice a1 n1 c1, Value.slice a2 n2 c2] 47 (0, 0))) := Lib.hid ((HY6.out.block _ (lt_of_block HRY4.out)).trans HRY4.out)
      have HLT : Hid (wo.heap.size < w6.heap.size ∧ w5.heap.size < w6.heap.size ∧ wo.heap.size ≤ w5.heap.size) := Lib.hid ⟨lt_of_block HRY.out, lt_of_block HRG.out, by have h7 := HO4.out.size; have h8 := HB5.out.size; omega⟩
      have HLA : Hid (∀ g, (Value.slice oa k oc).ownBlock = some g → g < w6.heap.size) := Lib.hid (fun g hg => by have := (hA.out.lt g hg).2; have := HLT.out; omega)
      clear h6 hon6 hb6 hb5 hz6
      refine go_on ?_
      have hln1 : n1 ≤ 1073741824 := by
        obtain ⟨_, _, _, ⟨_, _, he, hu, _⟩, _, _, _⟩ := HF.out
        simp only [Value.agg.injEq, Array.mk.injEq, List.cons.injEq, and_true] at he
        obtain ⟨-, rfl, -⟩ := he
        have := hu.lenE; have := hu.len; omega
      have hln5 : n5 ≤ 1073741824 := by
        obtain ⟨_, _, _, ⟨_, _, he, hu, _⟩, _, _, _⟩ := HF5.out
        simp only [Value.agg.injEq, Array.mk.injEq, List.cons.injEq, and_true] at he
        obtain ⟨-, rfl, -⟩ := he
        have := hu.lenE; have := hu.len; omega
      have HNX : Hid (sumR T 0 (i + 1) = sumR T 0 i + g i * q) := Lib.hid (by
        rw [← sumR_next, HT.out, HQ.out])
      by_cases h1 : 0 < n1
      · have u1 : decide ((0 : Int) < (n1 : Int)) = true := by simp; omega
        by_cases h3 : 0 < n5
        · have u3 : decide ((0 : Int) < (n5 : Int)) = true := by simp; omega
          have hI0 : Inv9 N w6 w1.heap.size (Value.slice oa k oc) (Value.slice ob k od) ps rs w6.drew := Inv9.drew ⟨hA.out.below HO6.out, hB.out.below HO6.out, HZ6.out.size, Nat.le_refl _, fun _ _ _ _ => rfl, Below.refl _ _⟩
          have KEEP : Hid (∀ w', Inv9 N w6 w1.heap.size (Value.slice oa k oc) (Value.slice ob k od) ps rs w' → w'.cell? ⟨wo.heap.size, 0, none⟩ = some (.bool b) ∧ w'.cell? ⟨wo.heap.size, 1, none⟩ = some (.slice a1 n1 c1) ∧ w'.cell? ⟨wo.heap.size, 2, none⟩ = some (.slice a2 n2 c2) ∧
              w'.cell? ⟨w5.heap.size, 0, none⟩ = some (.bool b5) ∧ w'.cell? ⟨w5.heap.size, 1, none⟩ = some (.slice a5 n5 c5) ∧ w'.cell? ⟨w5.heap.size, 2, none⟩ = some (.slice i5 j5 k5) ∧ Inv9 N w6 w1.heap.size (Value.slice oa k oc) (Value.slice ob k od) ps rs w') := Lib.hid (fun w' h => by
            have hla := hA.out.lt
            have hlb := hB.out.lt
            have z1 := HLT.out
            have e1 := (h.beside wo.heap.size (by omega) (fun e => by have := hla _ e; omega) (fun e => by have := hlb _ e; omega)).trans HRY.out
            have e2 := (h.beside w5.heap.size (by omega) (fun e => by have := hla _ e; omega) (fun e => by have := hlb _ e; omega)).trans HRG.out
            exact ⟨by rw [cell_of_row _ _ _ _ _ _ e1]; rfl, by rw [cell_of_row _ _ _ _ _ _ e1]; rfl, by rw [cell_of_row _ _ _ _ _ _ e1]; rfl, by rw [cell_of_row _ _ _ _ _ _ e2]; rfl, by rw [cell_of_row _ _ _ _ _ _ e2]; rfl, by rw [cell_of_row _ _ _ _ _ _ e2]; rfl, h⟩)
          have HLN : Hid (ps.length ≤ 1000000 ∧ rs.length ≤ 1000000) := Lib.hid (by have := hlen.out; omega)
          go_wp2_with fail
          clear y0 y1 y2 g0 g1 g2
          go_region_held3 (fun w' => w'.cell? ⟨wo.heap.size, 0, none⟩ = some (.bool b) ∧ w'.cell? ⟨wo.heap.size, 1, none⟩ = some (.slice a1 n1 c1) ∧ w'.cell? ⟨wo.heap.size, 2, none⟩ = some (.slice a2 n2 c2) ∧
              w'.cell? ⟨w5.heap.size, 0, none⟩ = some (.bool b5) ∧ w'.cell? ⟨w5.heap.size, 1, none⟩ = some (.slice a5 n5 c5) ∧ w'.cell? ⟨w5.heap.size, 2, none⟩ = some (.slice i5 j5 k5) ∧ Inv9 N w6 w1.heap.size (Value.slice oa k oc) (Value.slice ob k od) ps rs w')
            (((try dsimp only); refine KEEP.out _ ?_; (first | assumption | exact Inv9.alloc (‹_ ∧ _ ∧ _ ∧ _ ∧ _ ∧ _ ∧ Inv9 N w6 w1.heap.size (Value.slice oa k oc) (Value.slice ob k od) ps rs _›).2.2.2.2.2.2 _)))
            (first | ((refine step_push_frac (by rfl) _ _ (by rfl) N w1.heap.size (Value.slice oa k oc) ps (by rfl) (‹_ ∧ _ ∧ _ ∧ _ ∧ _ ∧ _ ∧ Inv9 N w6 w1.heap.size (Value.slice oa k oc) (Value.slice ob k od) ps rs _›).2.2.2.2.2.2.la _ _ b5 a5 i5 n5 c5 j5 k5 (g i) (by rfl) (by first | exact row_new (by simp) | exact row_old (by simp)) (HF5.out.below (HZ6.out.trans (‹_ ∧ _ ∧ _ ∧ _ ∧ _ ∧ _ ∧ Inv9 N w6 w1.heap.size (Value.slice oa k oc) (Value.slice ob k od) ps rs _›).2.2.2.2.2.2.bel)) HLN.out.1 (Nat.le_trans (‹_ ∧ _ ∧ _ ∧ _ ∧ _ ∧ _ ∧ Inv9 N w6 w1.heap.size (Value.slice oa k oc) (Value.slice ob k od) ps rs _›).2.2.2.2.2.2.hbase (‹_ ∧ _ ∧ _ ∧ _ ∧ _ ∧ _ ∧ Inv9 N w6 w1.heap.size (Value.slice oa k oc) (Value.slice ob k od) ps rs _›).2.2.2.2.2.2.size) ?_); intro v7 w7 hA7 hgA hbelA hatA holdA; have hn7 := Inv9.neA (a' := v7) (‹_ ∧ _ ∧ _ ∧ _ ∧ _ ∧ _ ∧ Inv9 N w6 w1.heap.size (Value.slice oa k oc) (Value.slice ob k od) ps rs _›).2.2.2.2.2.2 hne.out hatA; have hI7 : Inv9 N w6 w1.heap.size (Value.slice oa k oc) (Value.slice ob k od) ps rs w7 := Inv9.pushA (‹_ ∧ _ ∧ _ ∧ _ ∧ _ ∧ _ ∧ Inv9 N w6 w1.heap.size (Value.slice oa k oc) (Value.slice ob k od) ps rs _›).2.2.2.2.2.2 hgA holdA hbelA hne.out) | ((refine step_push_frac (by rfl) _ _ (by rfl) N w1.heap.size (Value.slice ob k od) rs (by rfl) (‹_ ∧ _ ∧ _ ∧ _ ∧ _ ∧ _ ∧ Inv9 N w6 w1.heap.size (Value.slice oa k oc) (Value.slice ob k od) ps rs _›).2.2.2.2.2.2.lb _ _ b a1 a2 n1 c1 n2 c2 q (by rfl) (by first | exact row_new (by simp) | exact row_beside hgA (row_new (by simp)) HLA.out (by simp) | exact row_beside hgA (row_old (by simp)) HLA.out (by simp)) (HF.out.below (HZ6.out.trans (‹_ ∧ _ ∧ _ ∧ _ ∧ _ ∧ _ ∧ Inv9 N w6 w1.heap.size (Value.slice oa k oc) (Value.slice ob k od) ps rs _›).2.2.2.2.2.2.bel)) HLN.out.2 (Nat.le_trans (‹_ ∧ _ ∧ _ ∧ _ ∧ _ ∧ _ ∧ Inv9 N w6 w1.heap.size (Value.slice oa k oc) (Value.slice ob k od) ps rs _›).2.2.2.2.2.2.hbase (‹_ ∧ _ ∧ _ ∧ _ ∧ _ ∧ _ ∧ Inv9 N w6 w1.heap.size (Value.slice oa k oc) (Value.slice ob k od) ps rs _›).2.2.2.2.2.2.size) ?_); intro v8 w8 hB8 hgB hbelB hatB holdB; have hX8 : Both9 N w1 w1.heap.size v7 v8 (ps ++ [g i]) (rs ++ [q]) w8 := Inv9.both (‹_ ∧ _ ∧ _ ∧ _ ∧ _ ∧ _ ∧ Inv9 N w6 w1.heap.size (Value.slice oa k oc) (Value.slice ob k od) ps rs _›).2.2.2.2.2.2 (by first | exact hA7 | exact hA7.below ((Below.refl _ _).alloc (Nat.le_refl _) _)) hB8 hgB hbelB hatB hn7 HZ6.out; have hI8 : Inv9 N w6 w1.heap.size (Value.slice oa k oc) (Value.slice ob k od) ps rs w8 := Inv9.pushB (‹_ ∧ _ ∧ _ ∧ _ ∧ _ ∧ _ ∧ Inv9 N w6 w1.heap.size (Value.slice oa k oc) (Value.slice ob k od) ps rs _›).2.2.2.2.2.2 hgB holdB hbelB hne.out))
          all_goals
            have HX8 := Lib.hid hX8
            obtain ⟨ga, gc, hga⟩ := hX8.la.form
            obtain ⟨gb, gd, hgb⟩ := hX8.lb.form
            have HLP : Hid ((ps ++ [g i]).length = k + 1 ∧ (rs ++ [q]).length = k + 1) := Lib.hid (by simp; exact hlen.out)
            rw [HLP.out.1] at hga
            rw [HLP.out.2] at hgb
            subst hga
            subst hgb
            have HS8 : Hid (sumR (fun j => nthQ (ps ++ [g i]) j * nthQ (rs ++ [q]) j) 0 (k + 1) = sumR T 0 (i + 1)) := Lib.hid (by
              have h9 := dot_snoc (ps := ps) (rs := rs) (P := g i) (R := q) (by rw [hlen.out.1, hlen.out.2])
              rw [hlen.out.1] at h9
              rw [h9, hsum.out, HNX.out])
            have HA8 := Lib.hid HX8.out.la
            have HB8 := Lib.hid HX8.out.lb
            have HN8 := Lib.hid HX8.out.ne
            have HZ8 := Lib.hid HX8.out.bel
            clear hX8 HX8
            go_wp2_with fail
            go_roundw
          all_goals first
            | exact ⟨i + 1, k + 1, _, _, _, _, _, _, by omega, by omega, by go_num, by go_num, by go_num, HLP, HA8, HB8, HN8, HS8, HZ8⟩
            | (simp [intOf]; omega)
        · have u3 : decide ((0 : Int) < (n5 : Int)) = false := by simp; omega
          have HZE : Hid (g i = 0) := Lib.hid (few_zero HF5.out (by omega))
          have HS2 : Hid (sumR (fun j => nthQ ps j * nthQ rs j) 0 k = sumR T 0 (i + 1)) := Lib.hid (by
            rw [HNX.out, hsum.out, HZE.out, Rat.zero_mul, Rat.add_zero])
          have HA6 := Lib.hid (hA.out.below HO6.out)
          have HB6 := Lib.hid (hB.out.below HO6.out)
          go_wp2_with fail
          go_roundw
          case rel => exact ⟨i + 1, k, _, _, _, _, ps, rs, by omega, by omega, by go_num, rfl, rfl, hlen, HA6, HB6, hne, HS2, HZ6⟩
          case measure => simp [intOf]; omega
      · have u1 : decide ((0 : Int) < (n1 : Int)) = false := by simp; omega
        have HZE : Hid (q = 0) := Lib.hid (few_zero HF.out (by omega))
        have HS2 : Hid (sumR (fun j => nthQ ps j * nthQ rs j) 0 k = sumR T 0 (i + 1)) := Lib.hid (by
          rw [HNX.out, hsum.out, HZE.out, Rat.mul_zero, Rat.add_zero])
        have HA6 := Lib.hid (hA.out.below HO6.out)
        have HB6 := Lib.hid (hB.out.below HO6.out)
        go_wp2_with fail
        go_roundw
        case rel => exact ⟨i + 1, k, _, _, _, _, ps, rs, by omega, by omega, by go_num, rfl, rfl, hlen, HA6, HB6, hne, HS2, HZ6⟩
        case measure => simp [intOf]; omega
    · have t0 : decide ((i : Int) < (n' : Int)) = false := by simp; omega
      have hie : i = n' := by omega
      subst hie
      have KD : Hid (Calls Tryz.prog 70 #[.slice oa k oc, .slice ob k od] wo (RTell wo (sumR T 0 i))) := Lib.hid (by
        have h9 := dot_wG hA.out.list hB.out.list hN (by have := hlen.out; omega) (by have := hlen.out; omega) (Nat.le_trans (Nat.mul_le_mul_left N (show ps.length ≤ i by have := hlen.out; omega)) HNN.out)
        rw [hlen.out.1, hlen.out.2, Nat.min_self, hsum.out] at h9
        exact h9)
      obtain ⟨S, hS⟩ : ∃ S, S = sumR T 0 i := ⟨_, rfl⟩
      rw [← hS] at KD
      have HSS := Lib.hid hS
      clear hS
      go_wp2_with fail
      refine KD.out.mono ?_
      rintro en9 w9 ⟨⟨v9, rfl, f9⟩, hb9⟩
      obtain ⟨a9, n9, c9, i9, j9, k9, hq9⟩ := frac_form f9
      subst hq9
      have hz9 := below_trans hZ.out hb9
      have HR9 : Hid (w9.heap[w.heap.size]? = some (.cells #[Value.bool false, Value.slice none 0 0, Value.slice none 0 0] 47 (0, 0))) := Lib.hid ((hz9.block _ (lt_of_block HR1.out)).trans HR1.out)
      have HF9 := Lib.hid (f9.other HR9.out (frac3_only _ _ (decide (S.num < 0)) (Value.slice a9 n9 c9) (Value.slice i9 j9 k9)))
      have HB9 := Lib.hid (below_trans HB1.out hz9)
      have r0 := cells_later HR9.out 0 _ rfl _ (Below.refl _ _)
      have r1 := cells_later HR9.out 1 _ rfl _ (Below.refl _ _)
      have r2 := cells_later HR9.out 2 _ rfl _ (Below.refl _ _)
      have z0 := frozen_of_row _ _ 0 _ _ HR9.out
      have z1 := frozen_of_row _ _ 1 _ _ HR9.out
      have z2 := frozen_of_row _ _ 2 _ _ HR9.out
      clear f9 hb9 hz9
      go_wp2_with fail
      exact bodyPost_ret (results_cell_row rfl _ _ w.heap.size _ _ _ _ rfl (frac3_heap HR9.out) Tryz.underlying47 rfl ifrac) rfl ⟨⟨_, rfl, by rw [← HSS.out]; exact HF9.out⟩, below_only HB9.out (frac3_only _ _ _ _ _) (by omega)⟩
set_option maxRecDepth 100000 in
set_option maxHeartbeats 8000000 in
theorem pcolumn_w {N : Nat} {w : World} {p p2 : Nat} {a' : Option Addr} {n' c' : Nat} {g : Nat → Rat} {qs : List Rat}
    (HG : ∀ (i : Nat) (w' : World), i < n' → Below w.heap.size w w' → Calls Tryz.prog 90 #[.int .i64 (i : Nat), Value.pointer (some ⟨p, 0, none⟩), Value.pointer (some ⟨p2, 0, none⟩)] w' (ReadPost N w w' (g i))) (hl' : ListF N w (.slice a' n' c') qs) (hN : N ≤ 50) (hn : n' ≤ 100) (hNn : N * n' ≤ 1000) :
    Calls Tryz.prog 25 #[.func (.func 90) #[] #[Value.pointer (some ⟨p, 0, none⟩), Value.pointer (some ⟨p2, 0, none⟩)], .slice a' n' c'] w (RTell w (sumR (fun i => g i * nthQ qs i) 0 n')) := by
  have HGH := Lib.hid HG
  obtain ⟨w1, hw1⟩ : ∃ w1, w1 = w.alloc (Obj.cells #[Value.bool false, Value.slice none 0 0, Value.slice none 0 0] 47) := ⟨_, rfl⟩
  have HB1 : Hid (Below w.heap.size w w1) := Lib.hid (by rw [hw1]; exact (Below.refl _ _).alloc (Nat.le_refl _) _)
  have HR1 : Hid (w1.heap[w.heap.size]? = some (.cells #[Value.bool false, Value.slice none 0 0, Value.slice none 0 0] 47 (0, 0))) := Lib.hid (by rw [hw1]; exact heap_alloc_new w _)
  have HW1 := Lib.hid hw1.symm
  have HL' := Lib.hid (hl'.below HB1.out)
  have HNN := Lib.hid hNn
  have hn'100 : n' ≤ 100 := by omega
  obtain ⟨T, hT⟩ : ∃ T : Nat → Rat, T = fun i => g i * nthQ qs i := ⟨_, rfl⟩
  have HT : Hid (∀ i, T i = g i * nthQ qs i) := Lib.hid (fun i => by rw [hT])
  rw [← hT]
  have KG := Lib.hid (fun w' i (hi : i < n') (hb : Below w1.heap.size w1 w') => HGH.out i w' hi (below_trans HB1.out hb))
  clear hw1 HG hl' hNn hT
  go_enter Tryz.func25, Tryz.ntmps25
  go_wp2_with fail
  rw [HW1.out]
  go_loopw [5, 6, 12] (fun av bv iv wr => ∃ (i k : Nat) (oa ob : Option Addr) (oc od : Nat) (ps rs : List Rat), i ≤ n' ∧ k ≤ i ∧ iv = .int .i64 i ∧ av = .slice oa k oc ∧ bv = .slice ob k od ∧ Hid (ps.length = k ∧ rs.length = k) ∧ Hid (LFs N wr w1.heap.size (.slice oa k oc) ps) ∧ Hid (LFs N wr w1.heap.size (.slice ob k od) rs) ∧
    Hid (∀ g, (Value.slice oa k oc).ownBlock = some g → (Value.slice ob k od).ownBlock ≠ some g) ∧ Hid (sumR (fun j => nthQ ps j * nthQ rs j) 0 k = sumR T 0 i) ∧ Hid (Below w1.heap.size w1 wr)) (fun _ _ iv _ => n' - (intOf iv).toNat)
  case atStart => exact ⟨0, 0, none, none, 0, 0, [], [], Nat.zero_le _, Nat.le_refl _, rfl, rfl, rfl, Lib.hid ⟨rfl, rfl⟩, Lib.hid (LFs.nil _ _ _), Lib.hid (LFs.nil _ _ _), Lib.hid (fun g h => by simp [Value.ownBlock] at h), Lib.hid rfl, Lib.hid (Below.refl _ _)⟩
  case round =>
    obtain ⟨i, k, oa, ob, oc, od, ps, rs, hi, hki, rfl, rfl, rfl, hlen, hA, hB, hne, hsum, hZ⟩ := hrel
    obtain ⟨wo, rfl⟩ : ∃ wo : World, wo = wr := ⟨_, rfl⟩
    by_cases hin : i < n'
    · have t0 : decide ((i : Int) < (n' : Int)) = true := by simp; omega
      obtain ⟨q, B, off, b, a1, n1, c1, a2, n2, c2, hq, ha, hc, hf⟩ := HL'.out.at hin
      subst ha
      obtain ⟨x0, x1, x2⟩ := hc wo hZ.out
      have HF := Lib.hid hf
      have HQ := Lib.hid (nthQ_of hq)
      clear hc hf hq
      go_wp2_with ((with_reducible refine at_store ?_); refine wpList_store_var rfl _ _ _ rfl wo.heap.size rfl _ rfl _ _ (heap_alloc_new _ _) ifrac rfl frac_one ?_; intro w4 h4 hon4; refine halt ?_)
      have hb4 : Below wo.heap.size wo w4 := below_only ((Below.refl _ _).alloc (Nat.le_refl _) _) hon4 (Nat.le_refl _)
      have HB4 := Lib.hid (below_trans hZ.out hb4)
      have HO4 := Lib.hid hb4
      have RY := Lib.hid (cells_later h4)
      have HRY4 := Lib.hid h4
      have K := Lib.hid (KG.out w4 i hin HB4.out)
      clear h4 hon4 hb4 x0 x1 x2
      refine go_on ?_
      go_wp2_with fail
      refine K.out.mono ?_
      rintro en5 w5 ⟨⟨b5, a5, n5, c5, i5, j5, k5, rfl, f5⟩, hb5⟩
      have HF5 := Lib.hid (f5.below HB1.out)
      have HB5 := Lib.hid hb5
      clear f5
      go_wp2_with ((with_reducible refine at_store ?_); refine wpList_store_var rfl _ _ _ rfl w5.heap.size rfl _ rfl _ _ (heap_alloc_new _ _) ifrac rfl frac_one ?_; intro w6 h6 hon6; refine halt ?_)
      have hb6 : Below w5.heap.size w5 w6 := below_only ((Below.refl _ _).alloc (Nat.le_refl _) _) hon6 (Nat.le_refl _)
      have HZ6 := Lib.hid (below_trans HB4.out (below_trans hb5 hb6))
      have HO6 := Lib.hid (below_trans HO4.out (below_trans hb5 hb6))
      have RG := Lib.hid (cells_later h6)
      have HY6 := Lib.hid (below_trans hb5 hb6)
      have hz6 := Below.refl w6.heap.size w6
      have y0 := RY.out 0 _ rfl _ HY6.out
      have y1 := RY.out 1 _ rfl _ HY6.out
      have y2 := RY.out 2 _ rfl _ HY6.out
      have g0 := RG.out 0 _ rfl _ hz6
      have g1 := RG.out 1 _ rfl _ hz6
      have g2 := RG.out 2 _ rfl _ hz6
      have HRG := Lib.hid h6
      have HRY : Hid (w6.heap[wo.heap.size]? = some (.cells #[Value.bool b, Value.slice a1 n1 c1, Value.slice a2 n2 c2] 47 (0, 0))) := Lib.hid ((HY6.out.block _ (lt_of_block HRY4.out)).trans HRY4.out)
      have HLT : Hid (wo.heap.size < w6.heap.size ∧ w5.heap.size < w6.heap.size ∧ wo.heap.size ≤ w5.heap.size) := Lib.hid ⟨lt_of_block HRY.out, lt_of_block HRG.out, by have h7 := HO4.out.size; have h8 := HB5.out.size; omega⟩
      have HLA : Hid (∀ g, (Value.slice oa k oc).ownBlock = some g → g < w6.heap.size) := Lib.hid (fun g hg => by have := (hA.out.lt g hg).2; have := HLT.out; omega)
      clear h6 hon6 hb6 hb5 hz6
      refine go_on ?_
      have hln1 : n1 ≤ 1073741824 := by
        obtain ⟨_, _, _, ⟨_, _, he, hu, _⟩, _, _, _⟩ := HF.out
        simp only [Value.agg.injEq, Array.mk.injEq, List.cons.injEq, and_true] at he
        obtain ⟨-, rfl, -⟩ := he
        have := hu.lenE; have := hu.len; omega
      have hln5 : n5 ≤ 1073741824 := by
        obtain ⟨_, _, _, ⟨_, _, he, hu, _⟩, _, _, _⟩ := HF5.out
        simp only [Value.agg.injEq, Array.mk.injEq, List.cons.injEq, and_true] at he
        obtain ⟨-, rfl, -⟩ := he
        have := hu.lenE; have := hu.len; omega
      have HNX : Hid (sumR T 0 (i + 1) = sumR T 0 i + g i * q) := Lib.hid (by
        rw [← sumR_next, HT.out, HQ.out])
      by_cases h1 : 0 < n1
      · have u1 : decide ((0 : Int) < (n1 : Int)) = true := by simp; omega
        by_cases h3 : 0 < n5
        · have u3 : decide ((0 : Int) < (n5 : Int)) = true := by simp; omega
          have hI0 : Inv9 N w6 w1.heap.size (Value.slice oa k oc) (Value.slice ob k od) ps rs w6.drew := Inv9.drew ⟨hA.out.below HO6.out, hB.out.below HO6.out, HZ6.out.size, Nat.le_refl _, fun _ _ _ _ => rfl, Below.refl _ _⟩
          have KEEP : Hid (∀ w', Inv9 N w6 w1.heap.size (Value.slice oa k oc) (Value.slice ob k od) ps rs w' → w'.cell? ⟨wo.heap.size, 0, none⟩ = some (.bool b) ∧ w'.cell? ⟨wo.heap.size, 1, none⟩ = some (.slice a1 n1 c1) ∧ w'.cell? ⟨wo.heap.size, 2, none⟩ = some (.slice a2 n2 c2) ∧
              w'.cell? ⟨w5.heap.size, 0, none⟩ = some (.bool b5) ∧ w'.cell? ⟨w5.heap.size, 1, none⟩ = some (.slice a5 n5 c5) ∧ w'.cell? ⟨w5.heap.size, 2, none⟩ = some (.slice i5 j5 k5) ∧ Inv9 N w6 w1.heap.size (Value.slice oa k oc) (Value.slice ob k od) ps rs w') := Lib.hid (fun w' h => by
            have hla := hA.out.lt
            have hlb := hB.out.lt
            have z1 := HLT.out
            have e1 := (h.beside wo.heap.size (by omega) (fun e => by have := hla _ e; omega) (fun e => by have := hlb _ e; omega)).trans HRY.out
            have e2 := (h.beside w5.heap.size (by omega) (fun e => by have := hla _ e; omega) (fun e => by have := hlb _ e; omega)).trans HRG.out
            exact ⟨by rw [cell_of_row _ _ _ _ _ _ e1]; rfl, by rw [cell_of_row _ _ _ _ _ _ e1]; rfl, by rw [cell_of_row _ _ _ _ _ _ e1]; rfl, by rw [cell_of_row _ _ _ _ _ _ e2]; rfl, by rw [cell_of_row _ _ _ _ _ _ e2]; rfl, by rw [cell_of_row _ _ _ _ _ _ e2]; rfl, h⟩)
          have HLN : Hid (ps.length ≤ 1000000 ∧ rs.length ≤ 1000000) := Lib.hid (by have := hlen.out; omega)
          go_wp2_with fail
          clear y0 y1 y2 g0 g1 g2
          go_region_held3 (fun w' => w'.cell? ⟨wo.heap.size, 0, none⟩ = some (.bool b) ∧ w'.cell? ⟨wo.heap.size, 1, none⟩ = some (.slice a1 n1 c1) ∧ w'.cell? ⟨wo.heap.size, 2, none⟩ = some (.slice a2 n2 c2) ∧
              w'.cell? ⟨w5.heap.size, 0, none⟩ = some (.bool b5) ∧ w'.cell? ⟨w5.heap.size, 1, none⟩ = some (.slice a5 n5 c5) ∧ w'.cell? ⟨w5.heap.size, 2, none⟩ = some (.slice i5 j5 k5) ∧ Inv9 N w6 w1.heap.size (Value.slice oa k oc) (Value.slice ob k od) ps rs w')
            (((try dsimp only); refine KEEP.out _ ?_; (first | assumption | exact Inv9.alloc (‹_ ∧ _ ∧ _ ∧ _ ∧ _ ∧ _ ∧ Inv9 N w6 w1.heap.size (Value.slice oa k oc) (Value.slice ob k od) ps rs _›).2.2.2.2.2.2 _)))
            (first | ((refine step_push_frac (by rfl) _ _ (by rfl) N w1.heap.size (Value.slice oa k oc) ps (by rfl) (‹_ ∧ _ ∧ _ ∧ _ ∧ _ ∧ _ ∧ Inv9 N w6 w1.heap.size (Value.slice oa k oc) (Value.slice ob k od) ps rs _›).2.2.2.2.2.2.la _ _ b5 a5 i5 n5 c5 j5 k5 (g i) (by rfl) (by first | exact row_new (by simp) | exact row_old (by simp)) (HF5.out.below (HZ6.out.trans (‹_ ∧ _ ∧ _ ∧ _ ∧ _ ∧ _ ∧ Inv9 N w6 w1.heap.size (Value.slice oa k oc) (Value.slice ob k od) ps rs _›).2.2.2.2.2.2.bel)) HLN.out.1 (Nat.le_trans (‹_ ∧ _ ∧ _ ∧ _ ∧ _ ∧ _ ∧ Inv9 N w6 w1.heap.size (Value.slice oa k oc) (Value.slice ob k od) ps rs _›).2.2.2.2.2.2.hbase (‹_ ∧ _ ∧ _ ∧ _ ∧ _ ∧ _ ∧ Inv9 N w6 w1.heap.size (Value.slice oa k oc) (Value.slice ob k od) ps rs _›).2.2.2.2.2.2.size) ?_); intro v7 w7 hA7 hgA hbelA hatA holdA; have hn7 := Inv9.neA (a' := v7) (‹_ ∧ _ ∧ _ ∧ _ ∧ _ ∧ _ ∧ Inv9 N w6 w1.heap.size (Value.slice oa k oc) (Value.slice ob k od) ps rs _›).2.2.2.2.2.2 hne.out hatA; have hI7 : Inv9 N w6 w1.heap.size (Value.slice oa k oc) (Value.slice ob k od) ps rs w7 := Inv9.pushA (‹_ ∧ _ ∧ _ ∧ _ ∧ _ ∧ _ ∧ Inv9 N w6 w1.heap.size (Value.slice oa k oc) (Value.slice ob k od) ps rs _›).2.2.2.2.2.2 hgA holdA hbelA hne.out) | ((refine step_push_frac (by rfl) _ _ (by rfl) N w1.heap.size (Value.slice ob k od) rs (by rfl) (‹_ ∧ _ ∧ _ ∧ _ ∧ _ ∧ _ ∧ Inv9 N w6 w1.heap.size (Value.slice oa k oc) (Value.slice ob k od) ps rs _›).2.2.2.2.2.2.lb _ _ b a1 a2 n1 c1 n2 c2 q (by rfl) (by first | exact row_new (by simp) | exact row_beside hgA (row_new (by simp)) HLA.out (by simp) | exact row_beside hgA (row_old (by simp)) HLA.out (by simp)) (HF.out.below (HZ6.out.trans (‹_ ∧ _ ∧ _ ∧ _ ∧ _ ∧ _ ∧ Inv9 N w6 w1.heap.size (Value.slice oa k oc) (Value.slice ob k od) ps rs _›).2.2.2.2.2.2.bel)) HLN.out.2 (Nat.le_trans (‹_ ∧ _ ∧ _ ∧ _ ∧ _ ∧ _ ∧ Inv9 N w6 w1.heap.size (Value.slice oa k oc) (Value.slice ob k od) ps rs _›).2.2.2.2.2.2.hbase (‹_ ∧ _ ∧ _ ∧ _ ∧ _ ∧ _ ∧ Inv9 N w6 w1.heap.size (Value.slice oa k oc) (Value.slice ob k od) ps rs _›).2.2.2.2.2.2.size) ?_); intro v8 w8 hB8 hgB hbelB hatB holdB; have hX8 : Both9 N w1 w1.heap.size v7 v8 (ps ++ [g i]) (rs ++ [q]) w8 := Inv9.both (‹_ ∧ _ ∧ _ ∧ _ ∧ _ ∧ _ ∧ Inv9 N w6 w1.heap.size (Value.slice oa k oc) (Value.slice ob k od) ps rs _›).2.2.2.2.2.2 (by first | exact hA7 | exact hA7.below ((Below.refl _ _).alloc (Nat.le_refl _) _)) hB8 hgB hbelB hatB hn7 HZ6.out; have hI8 : Inv9 N w6 w1.heap.size (Value.slice oa k oc) (Value.slice ob k od) ps rs w8 := Inv9.pushB (‹_ ∧ _ ∧ _ ∧ _ ∧ _ ∧ _ ∧ Inv9 N w6 w1.heap.size (Value.slice oa k oc) (Value.slice ob k od) ps rs _›).2.2.2.2.2.2 hgB holdB hbelB hne.out))
          all_goals
            have HX8 := Lib.hid hX8
            obtain ⟨ga, gc, hga⟩ := hX8.la.form
            obtain ⟨gb, gd, hgb⟩ := hX8.lb.form
            have HLP : Hid ((ps ++ [g i]).length = k + 1 ∧ (rs ++ [q]).length = k + 1) := Lib.hid (by simp; exact hlen.out)
            rw [HLP.out.1] at hga
            rw [HLP.out.2] at hgb
            subst hga
            subst hgb
            have HS8 : Hid (sumR (fun j => nthQ (ps ++ [g i]) j * nthQ (rs ++ [q]) j) 0 (k + 1) = sumR T 0 (i + 1)) := Lib.hid (by
              have h9 := dot_snoc (ps := ps) (rs := rs) (P := g i) (R := q) (by rw [hlen.out.1, hlen.out.2])
              rw [hlen.out.1] at h9
              rw [h9, hsum.out, HNX.out])
            have HA8 := Lib.hid HX8.out.la
            have HB8 := Lib.hid HX8.out.lb
            have HN8 := Lib.hid HX8.out.ne
            have HZ8 := Lib.hid HX8.out.bel
            clear hX8 HX8
            go_wp2_with fail
            go_roundw
          all_goals first
            | exact ⟨i + 1, k + 1, _, _, _, _, _, _, by omega, by omega, by go_num, by go_num, by go_num, HLP, HA8, HB8, HN8, HS8, HZ8⟩
            | (simp [intOf]; omega)
        · have u3 : decide ((0 : Int) < (n5 : Int)) = false := by simp; omega
          have HZE : Hid (g i = 0) := Lib.hid (few_zero HF5.out (by omega))
          have HS2 : Hid (sumR (fun j => nthQ ps j * nthQ rs j) 0 k = sumR T 0 (i + 1)) := Lib.hid (by
            rw [HNX.out, hsum.out, HZE.out, Rat.zero_mul, Rat.add_zero])
          have HA6 := Lib.hid (hA.out.below HO6.out)
          have HB6 := Lib.hid (hB.out.below HO6.out)
          go_wp2_with fail
          go_roundw
          case rel => exact ⟨i + 1, k, _, _, _, _, ps, rs, by omega, by omega, by go_num, rfl, rfl, hlen, HA6, HB6, hne, HS2, HZ6⟩
          case measure => simp [intOf]; omega
      · have u1 : decide ((0 : Int) < (n1 : Int)) = false := by simp; omega
        have HZE : Hid (q = 0) := Lib.hid (few_zero HF.out (by omega))
        have HS2 : Hid (sumR (fun j => nthQ ps j * nthQ rs j) 0 k = sumR T 0 (i + 1)) := Lib.hid (by
          rw [HNX.out, hsum.out, HZE.out, Rat.mul_zero, Rat.add_zero])
        have HA6 := Lib.hid (hA.out.below HO6.out)
        have HB6 := Lib.hid (hB.out.below HO6.out)
        go_wp2_with fail
        go_roundw
        case rel => exact ⟨i + 1, k, _, _, _, _, ps, rs, by omega, by omega, by go_num, rfl, rfl, hlen, HA6, HB6, hne, HS2, HZ6⟩
        case measure => simp [intOf]; omega
    · have t0 : decide ((i : Int) < (n' : Int)) = false := by simp; omega
      have hie : i = n' := by omega
      subst hie
      have KD : Hid (Calls Tryz.prog 70 #[.slice oa k oc, .slice ob k od] wo (RTell wo (sumR T 0 i))) := Lib.hid (by
        have h9 := dot_wG hA.out.list hB.out.list hN (by have := hlen.out; omega) (by have := hlen.out; omega) (Nat.le_trans (Nat.mul_le_mul_left N (show ps.length ≤ i by have := hlen.out; omega)) HNN.out)
        rw [hlen.out.1, hlen.out.2, Nat.min_self, hsum.out] at h9
        exact h9)
      obtain ⟨S, hS⟩ : ∃ S, S = sumR T 0 i := ⟨_, rfl⟩
      rw [← hS] at KD
      have HSS := Lib.hid hS
      clear hS
      go_wp2_with fail
      refine KD.out.mono ?_
      rintro en9 w9 ⟨⟨v9, rfl, f9⟩, hb9⟩
      obtain ⟨a9, n9, c9, i9, j9, k9, hq9⟩ := frac_form f9
      subst hq9
      have hz9 := below_trans hZ.out hb9
      have HR9 : Hid (w9.heap[w.heap.size]? = some (.cells #[Value.bool false, Value.slice none 0 0, Value.slice none 0 0] 47 (0, 0))) := Lib.hid ((hz9.block _ (lt_of_block HR1.out)).trans HR1.out)
      have HF9 := Lib.hid (f9.other HR9.out (frac3_only _ _ (decide (S.num < 0)) (Value.slice a9 n9 c9) (Value.slice i9 j9 k9)))
      have HB9 := Lib.hid (below_trans HB1.out hz9)
      have r0 := cells_later HR9.out 0 _ rfl _ (Below.refl _ _)
      have r1 := cells_later HR9.out 1 _ rfl _ (Below.refl _ _)
      have r2 := cells_later HR9.out 2 _ rfl _ (Below.refl _ _)
      have z0 := frozen_of_row _ _ 0 _ _ HR9.out
      have z1 := frozen_of_row _ _ 1 _ _ HR9.out
      have z2 := frozen_of_row _ _ 2 _ _ HR9.out
      clear f9 hb9 hz9
      go_wp2_with fail
      exact bodyPost_ret (results_cell_row rfl _ _ w.heap.size _ _ _ _ rfl (frac3_heap HR9.out) Tryz.underlying47 rfl ifrac) rfl ⟨⟨_, rfl, by rw [← HSS.out]; exact HF9.out⟩, below_only HB9.out (frac3_only _ _ _ _ _) (by omega)⟩
end Go.Proofs.YtlaphdlocchagaaGreat
