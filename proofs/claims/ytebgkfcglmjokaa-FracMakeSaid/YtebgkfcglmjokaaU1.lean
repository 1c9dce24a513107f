/- The reference: lowest terms, products. -/
import Derived.Test.YtebgkfcglmjokaaT2
import Derived.Deep.CutBlock
import Derived.Deep.DeepCutAuto
import Derived.Deep.DrawnRows
namespace Go.Proofs.Ytebgkfcglmjokaa
open Go.RowKit
attribute [local go_sem ↓] Go.wp_at_zero Go.wp_at_succ

theorem IsW.lenE {w : World} {a : Option Addr} {n c : Nat} {l : List Nat} (h : IsW w (.slice a n c) l) : n = l.length := by
  obtain ⟨a', n', c', he, hn⟩ := h.form_len
  simp only [Value.slice.injEq] at he
  obtain ⟨-, rfl, -⟩ := he
  exact hn
theorem frac_cells {b : Bool} {a i : Option Addr} {n c j k : Nat} : ∀ (x y : Nat), (#[Value.bool b, Value.slice a n c, Value.slice i j k] : Array Value)[x]? ≠ some (U y) := by
  intro x y h
  match x, h with
  | 0, h => simp [U] at h
  | 1, h => simp [U] at h
  | 2, h => simp [U] at h
  | (x + 3), h => simp at h
theorem FracV.other {w w' : World} {v : Value} {q : Rat} {B : Nat} {t : TypeId} {fr : Nat × Nat} {b : Bool} {a i : Option Addr} {n c j k : Nat} (h : FracV w v q) (hB : w.heap[B]? = some (.cells #[Value.bool b, Value.slice a n c, Value.slice i j k] t fr)) (ho : Only B w w') : FracV w' v q := by
  obtain ⟨u, d, rfl, hu, hd⟩ := h
  exact ⟨u, d, rfl, hu.other hB frac_cells ho, hd.other hB frac_cells ho⟩

/-- The words of a number above 0, and whether it is 1, as the walk reads it. -/
theorem word_test {w : World} {v : Value} {y : Nat} (h : IsW w v (digs y)) (hy : 0 < y) :
    ∃ b off n c d, v = .slice (some ⟨b, off, none⟩) n c ∧ n = (digs y).length ∧ 0 < n ∧ (∀ w', Below w.heap.size w w' → w'.cell? ⟨b, off, none⟩ = some (.int .u32 (d : Nat))) ∧ ((1 < n ∧ oneB y = false) ∨ (n = 1 ∧ d ≠ 1 ∧ oneB y = false) ∨ (n = 1 ∧ d = 1 ∧ oneB y = true)) := by
  obtain ⟨a, n, c, rfl, hn, hc⟩ := slice_len h
  have h0 : 0 < n := by rw [hn, digs_pos (by omega)]; simp
  obtain ⟨b, off, rfl, hd⟩ := hc h0
  refine ⟨b, off, n, c, nth (digs y) 0, rfl, hn, h0, fun w' hb => hd 0 h0 w' hb, ?_⟩
  by_cases h1 : n = 1
  · have e := val_one (m := digs y) (by omega)
    rw [val_digs] at e
    rw [← e]
    by_cases hy1 : y = 1
    · exact Or.inr (Or.inr ⟨h1, hy1, by simp [oneB, hy1]⟩)
    · exact Or.inr (Or.inl ⟨h1, hy1, by simp [oneB, hy1]⟩)
  · refine Or.inl ⟨by omega, ?_⟩
    have : y ≠ 1 := fun e => by rw [e, digs_one] at hn; simp at hn; omega
    simp [oneB, this]

theorem low_facts {z : Int} {y : Nat} (hy : y ≠ 0) :
    (mkRat z y).num.natAbs = z.natAbs / Nat.gcd z.natAbs y ∧ (mkRat z y).den = y / Nat.gcd z.natAbs y ∧ decide ((mkRat z y).num < 0) = decide (z < 0) := by
  have hg : 0 < Nat.gcd z.natAbs y := Nat.gcd_pos_of_pos_right _ (by omega)
  have hz := mkRat_num_mul (z := z) hy
  refine ⟨?_, mkRat_den hy, ?_⟩
  · have h2 := congrArg Int.natAbs hz
    rw [Int.natAbs_mul, Int.natAbs_natCast] at h2
    exact (Nat.div_eq_of_eq_mul_left hg h2).symm
  · have hgi : (0 : Int) < (Nat.gcd z.natAbs y : Nat) := by omega
    rw [decide_eq_decide]
    constructor
    · intro h
      have h3 := Int.mul_neg_of_neg_of_pos h hgi
      rwa [← hz] at h3
    · intro h
      by_cases hq : (mkRat z y).num < 0
      · exact hq
      · have h3 := Int.mul_nonneg (Int.not_lt.1 hq) (Int.le_of_lt hgi)
        rw [← hz] at h3
        omega
theorem cut_zero (y : Nat) : cutR (mkRat 0 y) = 0 := by
  rw [Rat.zero_mkRat]; unfold cutR; split <;> rfl

set_option maxRecDepth 8000 in
set_option maxHeartbeats 4000000 in
theorem rlowest_w {w : World} {u v : Value} {b : Bool} {z : Int} {y : Nat} (hu : IsW w u (digs z.natAbs)) (hv : IsW w v (digs y)) (hy : 0 < y) (hb : z ≠ 0 → b = decide (z < 0)) (hlz : (digs z.natAbs).length < 1073741824) (hly : (digs y).length < 1073741824) :
    Calls Try.prog 78 #[.bool b, u, v] w fun e w' => (∃ r, e = .returned r ∧ FracV w' r (cutR (mkRat z y))) ∧ Below w.heap.size w w' := by
  obtain ⟨w1, hw1⟩ : ∃ w1, w1 = w.alloc (Obj.cells #[Value.bool false, Value.slice none 0 0, Value.slice none 0 0] 24) := ⟨_, rfl⟩
  have HB1 : Hid (Below w.heap.size w w1) := Lib.hid (by rw [hw1]; exact (Below.refl _ _).alloc (Nat.le_refl _) _)
  have HR1 : Hid (w1.heap[w.heap.size]? = some (.cells #[Value.bool false, Value.slice none 0 0, Value.slice none 0 0] 24 (0, 0))) := Lib.hid (by rw [hw1]; exact heap_alloc_new w _)
  have HW1 := Lib.hid hw1.symm
  clear hw1
  have HU := Lib.hid (hu.below HB1.out)
  have HV := Lib.hid (hv.below HB1.out)
  have HLZ := Lib.hid hlz
  have HLY := Lib.hid hly
  obtain ⟨vb, vo, vn, vc, vd, rfl, hvn, hvn0, hvc, hvt⟩ := word_test hv hy
  have HVC := Lib.hid hvc
  have HVT := Lib.hid hvt
  obtain ⟨ua, un, uc, rfl, hun⟩ := hu.form_len
  have HUN := Lib.hid hun
  have hun9 : un < 1073741824 := by omega
  have hvn9 : vn < 1073741824 := by omega
  by_cases hz0 : z = 0
  · have t0 : ((un : Int) == 0) = true := by
      have h9 : (digs z.natAbs).length = 0 := by rw [hz0]; simp [digs_zero]
      simp; omega
    have HF : Hid (cutR (mkRat z y) = 0) := Lib.hid (by rw [hz0]; exact cut_zero y)
    clear hu hv hy hb hlz hly hvn hvc hvt hun hz0
    go_enter Try.func78, Try.ntmps78
    go_wp2_with fail
    rw [HW1.out]
    refine rzero_w.mono ?_
    rintro enz wz ⟨⟨rz, rfl, fz⟩, hbz⟩
    obtain ⟨uz, dz, rfl, huz, hdz⟩ := fz
    obtain ⟨az, nz, cz, hez⟩ := huz.form
    subst hez
    obtain ⟨iz, jz, kz, hfz⟩ := hdz.form
    subst hfz
    have HUZ := Lib.hid huz
    have HDZ := Lib.hid hdz
    have HBZ := Lib.hid (below_trans HB1.out hbz)
    have HRZ : Hid (wz.heap[w.heap.size]? = some (.cells #[Value.bool false, Value.slice none 0 0, Value.slice none 0 0] 24 (0, 0))) := Lib.hid ((hbz.block _ (lt_of_block HR1.out)).trans HR1.out)
    have r0 := cells_later HRZ.out 0 _ rfl _ (Below.refl _ _)
    have r1 := cells_later HRZ.out 1 _ rfl _ (Below.refl _ _)
    have r2 := cells_later HRZ.out 2 _ rfl _ (Below.refl _ _)
    have f0 := frozen_of_row _ _ 0 _ _ HRZ.out
    have f1 := frozen_of_row _ _ 1 _ _ HRZ.out
    have f2 := frozen_of_row _ _ 2 _ _ HRZ.out
    clear huz hdz hbz
    go_wp2_with fail
    have h9 := frac3_q (q := 0) HRZ.out HUZ.out HDZ.out
    exact bodyPost_ret (results_cell_row rfl _ _ (w.heap.size) _ _ _ _ rfl (frac3_heap HRZ.out) Try.underlying24 rfl ifrac) rfl ⟨⟨_, rfl, by rw [HF.out]; exact h9⟩, below_only HBZ.out (frac3_only _ _ _ _ _) (by omega)⟩
  · have h9 : (digs z.natAbs).length ≠ 0 := by rw [digs_pos (by omega)]; simp
    have t0 : ((un : Int) == 0) = false := by simp; omega
    have HZ0 := Lib.hid hz0
    have hy0 : y ≠ 0 := by omega
    obtain ⟨hq1, hq2, hq3⟩ := low_facts (z := z) hy0
    rw [← hb hz0] at hq3
    obtain ⟨q, hq⟩ : ∃ q, q = mkRat z y := ⟨_, rfl⟩
    rw [← hq] at hq1 hq2 hq3 ⊢
    obtain ⟨G, hG⟩ : ∃ G, G = Nat.gcd z.natAbs y := ⟨_, rfl⟩
    have HG0 : Hid (0 < G) := Lib.hid (by rw [hG]; exact Nat.gcd_pos_of_pos_right _ hy)
    have HCM := Lib.hid (rcommon_w HU.out HV.out HLZ.out HLY.out)
    rw [← hG] at hq1 hq2 HCM
    have HQN := Lib.hid hq1
    have HQD := Lib.hid hq2
    have HQB := Lib.hid hq3
    have HG := Lib.hid hG
    obtain ⟨tb, htb⟩ : ∃ t, t = !oneB y := ⟨_, rfl⟩
    have HTB := Lib.hid htb
    clear hu hv hy hb hlz hly hvn hvc hvt hun hz0 h9 hy0 hq1 hq2 hq3 hq hG htb
    go_enter Try.func78, Try.ntmps78
    go_upto_region 3 with fail
    rw [HW1.out]
    go_cut [22] (fun c wr => c = .bool tb ∧ w1 = wr)
    case first =>
      have g0 := HVC.out _ HB1.out
      rcases HVT.out with ⟨h1, h2⟩ | ⟨h1, h2, h3⟩ | ⟨h1, h2, h3⟩
      · have t1 : decide ((1 : Int) < (vn : Int)) = true := by simp; omega
        have HF : Hid (tb = true) := Lib.hid (by rw [HTB.out, h2]; rfl)
        clear h1 h2
        go_wp2_with fail
        go_meet
        exact ⟨by rw [HF.out], rfl⟩
      · have t1 : decide ((1 : Int) < (vn : Int)) = false := by simp; omega
        have t2 : ((vd : Int) == 1) = false := by simp; omega
        have t3 : ((vd : Int) != 1) = true := by simp; omega
        have HF : Hid (tb = true) := Lib.hid (by rw [HTB.out, h3]; rfl)
        clear h1 h2 h3
        go_wp2_with fail
        go_meet
        exact ⟨by rw [HF.out], rfl⟩
      · have t1 : decide ((1 : Int) < (vn : Int)) = false := by simp; omega
        have t2 : ((vd : Int) == 1) = true := by simp; omega
        have t3 : ((vd : Int) != 1) = false := by simp; omega
        have HF : Hid (tb = false) := Lib.hid (by rw [HTB.out, h3]; rfl)
        clear h1 h2 h3
        go_wp2_with fail
        go_meet
        exact ⟨by rw [HF.out], rfl⟩
    case rest =>
      obtain ⟨rfl, rfl⟩ := hcut
      go_upto_if 22 with fail
      go_cut [1, 2] (fun nv ev wr => ∃ (na : Option Addr) (nn nc : Nat) (ea : Option Addr) (en ec : Nat), nv = .slice na nn nc ∧ ev = .slice ea en ec ∧ Hid (IsW wr (.slice na nn nc) (digs q.num.natAbs)) ∧ Hid (IsW wr (.slice ea en ec) (digs q.den)) ∧ Hid (Below w1.heap.size w1 wr))
      case first =>
        cases tb with
        | false =>
          have HY1 : Hid (y = 1) := Lib.hid (by have := HTB.out; simpa [oneB] using this)
          have HE : Hid (q.num.natAbs = z.natAbs ∧ q.den = y) := Lib.hid (by rw [HQN.out, HQD.out, HG.out, HY1.out]; simp)
          go_wp2_with fail
          go_meet
          exact ⟨_, _, _, _, _, _, rfl, rfl, Lib.hid (by rw [HE.out.1]; exact HU.out), Lib.hid (by rw [HE.out.2]; exact HV.out), Lib.hid (Below.refl _ _)⟩
        | true =>
          go_wp2_with fail
          refine HCM.out.mono ?_
          rintro en2 w2 ⟨⟨g2, rfl, hg2⟩, hb2⟩
          have HG2 := Lib.hid hg2
          have HB2 := Lib.hid hb2
          obtain ⟨gb, go9, gn, gc, gd, rfl, hgn, hgn0, hgc, hgt⟩ := word_test hg2 HG0.out
          have HGC := Lib.hid hgc
          have HGT := Lib.hid hgt
          obtain ⟨sb, hsb⟩ : ∃ t, t = !oneB G := ⟨_, rfl⟩
          have HSB := Lib.hid hsb
          have hgn9 : gn ≤ 1073741824 := by have := hg2.len; omega
          clear hg2 hb2 hgn hgc hgt hsb
          go_upto_region 5 with fail
          go_cut [34] (fun c wr => c = .bool sb ∧ w2 = wr)
          case first =>
            have g0 := HGC.out _ (Below.refl _ _)
            rcases HGT.out with ⟨h1, h2⟩ | ⟨h1, h2, h3⟩ | ⟨h1, h2, h3⟩
            · have t1 : decide ((1 : Int) < (gn : Int)) = true := by simp; omega
              have HF : Hid (sb = true) := Lib.hid (by rw [HSB.out, h2]; rfl)
              clear h1 h2
              go_wp2_with fail
              go_meet
              exact ⟨by rw [HF.out], rfl⟩
            · have t1 : decide ((1 : Int) < (gn : Int)) = false := by simp; omega
              have t2 : ((gd : Int) == 1) = false := by simp; omega
              have t3 : ((gd : Int) != 1) = true := by simp; omega
              have HF : Hid (sb = true) := Lib.hid (by rw [HSB.out, h3]; rfl)
              clear h1 h2 h3
              go_wp2_with fail
              go_meet
              exact ⟨by rw [HF.out], rfl⟩
            · have t1 : decide ((1 : Int) < (gn : Int)) = false := by simp; omega
              have t2 : ((gd : Int) == 1) = true := by simp; omega
              have t3 : ((gd : Int) != 1) = false := by simp; omega
              have HF : Hid (sb = false) := Lib.hid (by rw [HSB.out, h3]; rfl)
              clear h1 h2 h3
              go_wp2_with fail
              go_meet
              exact ⟨by rw [HF.out], rfl⟩
          case rest =>
            obtain ⟨rfl, rfl⟩ := hcut
            cases sb with
            | false =>
              have HY1 : Hid (G = 1) := Lib.hid (by have := HSB.out; simpa [oneB] using this)
              have HE : Hid (q.num.natAbs = z.natAbs ∧ q.den = y) := Lib.hid (by rw [HQN.out, HQD.out, HY1.out]; simp)
              go_wp2_with fail
              go_meet
              exact ⟨_, _, _, _, _, _, rfl, rfl, Lib.hid (by rw [HE.out.1]; exact HU.out.below HB2.out), Lib.hid (by rw [HE.out.2]; exact HV.out.below HB2.out), Lib.hid HB2.out⟩
            | true =>
              have HP1 := Lib.hid (rparts_w (HU.out.below HB2.out) HG2.out HG0.out HLZ.out)
              have HP2 := Lib.hid (fun w' (hb : Below w2.heap.size w2 w') => rparts_w (w := w') ((HV.out.below HB2.out).below hb) (HG2.out.below hb) HG0.out HLY.out)
              go_wp2_with fail
              refine HP1.out.mono ?_
              rintro en3 w3 ⟨⟨q3, r3, rfl, hq3, hr3⟩, hb3⟩
              obtain ⟨a3, n3, c3, he3⟩ := hq3.form
              subst he3
              obtain ⟨i3, j3, k3, hf3⟩ := hr3.form
              subst hf3
              go_wp2_with fail
              refine (HP2.out _ hb3).mono ?_
              rintro en4 w4 ⟨⟨q4, r4, rfl, hq4, hr4⟩, hb4⟩
              obtain ⟨a4, n4, c4, he4⟩ := hq4.form
              subst he4
              obtain ⟨i4, j4, k4, hf4⟩ := hr4.form
              subst hf4
              have HQ3 := Lib.hid (hq3.below hb4)
              have HQ4 := Lib.hid hq4
              have HB4 := Lib.hid (below_trans HB2.out (below_trans hb3 hb4))
              clear hq3 hr3 hq4 hr4 hb3 hb4 HP1 HP2
              go_wp2_with ((with_reducible refine at_store ?_); refine wpList_store_var rfl _ _ _ rfl w4.heap.size rfl _ rfl _ _ (heap_alloc2_old w4 _ _) iparts rfl two_one ?_; intro w6 h6 hon6; refine halt ?_)
              have hb6 : Below w4.heap.size w4 w6 := below_only (((Below.refl _ _).alloc (Nat.le_refl _) _).alloc (by simp) _) hon6 (Nat.le_refl _)
              have hy6 := (hon6.block (w4.heap.size + 1) (by omega)).trans (heap_alloc2_new w4 _ _)
              have HH6 := Lib.hid h6
              have HB6 := Lib.hid hb6
              have HY6 := Lib.hid hy6
              clear h6 hon6 hb6 hy6
              refine go_on ?_
              go_wp2_with ((with_reducible refine at_store ?_); refine wpList_store_var rfl _ _ _ rfl (w4.heap.size + 1) rfl _ rfl _ _ HY6.out iparts rfl two_one ?_; intro w7 h7 hon7; refine halt ?_)
              have HX7 := Lib.hid ((hon7.block w4.heap.size (by omega)).trans HH6.out)
              have HB7 := Lib.hid (below_only HB6.out hon7 (by omega))
              have s0 := cells_later HX7.out 0 _ rfl _ (Below.refl _ _)
              have s1 := cells_later HX7.out 1 _ rfl _ (Below.refl _ _)
              have s2 := cells_later h7 0 _ rfl _ (Below.refl _ _)
              have s3 := cells_later h7 1 _ rfl _ (Below.refl _ _)
              have HN7 : Hid (IsW w7 (Value.slice a3 n3 c3) (digs q.num.natAbs)) := Lib.hid (by rw [HQN.out]; exact HQ3.out.below HB7.out)
              have HD7 : Hid (IsW w7 (Value.slice a4 n4 c4) (digs q.den)) := Lib.hid (by rw [HQD.out]; exact HQ4.out.below HB7.out)
              have HW7 := Lib.hid (below_trans HB4.out HB7.out)
              clear h7 hon7
              refine go_on ?_
              go_wp2_with fail
              go_quiet (fail)
              go_wp2_with fail
              go_meet
              exact ⟨_, _, _, _, _, _, rfl, rfl, Lib.hid (HN7.out.drewN _), Lib.hid (HD7.out.drewN _), Lib.hid (below_drewN HW7.out _)⟩
      case rest =>
        obtain ⟨w8, rfl⟩ : ∃ w8 : World, w8 = wc := ⟨_, rfl⟩
        obtain ⟨na, nn, nc, ea, en, ec, rfl, rfl, HN8, HD8, HB8⟩ := hcut
        have hnn := HN8.out.lenE
        have hen := HD8.out.lenE
        have hnn9 : nn ≤ 1073741824 := by have := HN8.out.len; omega
        have hen9 : en ≤ 1073741824 := by have := HD8.out.len; omega
        have HW8 := Lib.hid (below_trans HB1.out HB8.out)
        have HR8 : Hid (w8.heap[w.heap.size]? = some (.cells #[Value.bool false, Value.slice none 0 0, Value.slice none 0 0] 24 (0, 0))) := Lib.hid ((HB8.out.block _ (lt_of_block HR1.out)).trans HR1.out)
        by_cases hlen : lenQ q ≤ 4096
        · have HC : Hid (cutR q = q) := Lib.hid (cut_id hlen)
          unfold lenQ at hlen
          have t1 : decide ((4096 : Int) < (nn : Int) + (en : Int)) = false := by simp; omega
          have r0 := cells_later HR8.out 0 _ rfl _ (Below.refl _ _)
          have r1 := cells_later HR8.out 1 _ rfl _ (Below.refl _ _)
          have r2 := cells_later HR8.out 2 _ rfl _ (Below.refl _ _)
          have f0 := frozen_of_row _ _ 0 _ _ HR8.out
          have f1 := frozen_of_row _ _ 1 _ _ HR8.out
          have f2 := frozen_of_row _ _ 2 _ _ HR8.out
          clear hlen hnn hen
          go_wp2_with fail
          have h9 := frac3_q (q := q) HR8.out HN8.out HD8.out
          rw [HQB.out] at h9
          exact bodyPost_ret (results_cell_row rfl _ _ w.heap.size _ _ _ _ rfl (frac3_heap HR8.out) Try.underlying24 rfl ifrac) rfl ⟨⟨_, rfl, by rw [HC.out]; exact h9⟩, below_only HW8.out (frac3_only _ _ _ _ _) (by omega)⟩
        · have HF : Hid (cutR q = 0) := Lib.hid (by unfold cutR; rw [if_neg hlen])
          unfold lenQ at hlen
          have t1 : decide ((4096 : Int) < (nn : Int) + (en : Int)) = true := by simp; omega
          clear hlen hnn hen
          go_wp2_with fail
          refine rzero_w.mono ?_
          rintro enz wz ⟨⟨rz, rfl, fz⟩, hbz⟩
          obtain ⟨uz, dz, rfl, huz, hdz⟩ := fz
          obtain ⟨az, nz, cz, hez⟩ := huz.form
          subst hez
          obtain ⟨iz, jz, kz, hfz⟩ := hdz.form
          subst hfz
          have HUZ := Lib.hid huz
          have HDZ := Lib.hid hdz
          have HBZ := Lib.hid (below_trans HW8.out hbz)
          have HRZ : Hid (wz.heap[w.heap.size]? = some (.cells #[Value.bool false, Value.slice none 0 0, Value.slice none 0 0] 24 (0, 0))) := Lib.hid ((hbz.block _ (lt_of_block HR8.out)).trans HR8.out)
          have r0 := cells_later HRZ.out 0 _ rfl _ (Below.refl _ _)
          have r1 := cells_later HRZ.out 1 _ rfl _ (Below.refl _ _)
          have r2 := cells_later HRZ.out 2 _ rfl _ (Below.refl _ _)
          have f0 := frozen_of_row _ _ 0 _ _ HRZ.out
          have f1 := frozen_of_row _ _ 1 _ _ HRZ.out
          have f2 := frozen_of_row _ _ 2 _ _ HRZ.out
          clear huz hdz hbz
          go_wp2_with fail
          have h9 := frac3_q (q := 0) HRZ.out HUZ.out HDZ.out
          exact bodyPost_ret (results_cell_row rfl _ _ (w.heap.size) _ _ _ _ rfl (frac3_heap HRZ.out) Try.underlying24 rfl ifrac) rfl ⟨⟨_, rfl, by rw [HF.out]; exact h9⟩, below_only HBZ.out (frac3_only _ _ _ _ _) (by omega)⟩

theorem sign_mul {x y : Int} (h : x * y ≠ 0) : (decide (x < 0) != decide (y < 0)) = decide (x * y < 0) := by
  have hx : x ≠ 0 := fun e => h (by rw [e, Int.zero_mul])
  have hy : y ≠ 0 := fun e => h (by rw [e, Int.mul_zero])
  by_cases h1 : x < 0 <;> by_cases h2 : y < 0
  · have h3 := Int.mul_pos_of_neg_of_neg h1 h2
    have h4 : ¬ x * y < 0 := by omega
    simp [h1, h2, h4]
  · have h3 := Int.mul_neg_of_neg_of_pos h1 (show 0 < y by omega)
    simp [h1, h2, h3]
  · have h3 := Int.mul_neg_of_pos_of_neg (show 0 < x by omega) h2
    simp [h1, h2, h3]
  · have h3 := Int.mul_pos (show 0 < x by omega) (show 0 < y by omega)
    have h4 : ¬ x * y < 0 := by omega
    simp [h1, h2, h4]

set_option maxRecDepth 8000 in
set_option maxHeartbeats 2000000 in
theorem rproduct_w {w : World} {v t : Value} {P S : Rat} (hv : FracV w v P) (ht : FracV w t S) (h1 : lenQ P ≤ 4096) (h2 : lenQ S ≤ 4096) :
    Calls Try.prog 72 #[v, t] w fun e w' => (∃ r, e = .returned r ∧ FracV w' r (cutR (P * S))) ∧ Below w.heap.size w w' := by
  obtain ⟨u, d, rfl, hu, hd⟩ := hv
  obtain ⟨ua, un, uc, hue⟩ := hu.form
  subst hue
  obtain ⟨da, dn, dc, hde⟩ := hd.form
  subst hde
  obtain ⟨u2, d2, rfl, hu2, hd2⟩ := ht
  obtain ⟨va, vn, vc, hve⟩ := hu2.form
  subst hve
  obtain ⟨ea, en, ec, hee⟩ := hd2.form
  subst hee
  obtain ⟨b, hb⟩ : ∃ b, b = decide (P.num < 0) := ⟨_, rfl⟩
  obtain ⟨c, hc⟩ : ∃ b, b = decide (S.num < 0) := ⟨_, rfl⟩
  rw [← hb, ← hc]
  obtain ⟨w1, hw1⟩ : ∃ w1, w1 = (((w.alloc (Obj.cells #[Value.bool b, Value.slice ua un uc, Value.slice da dn dc] 24)).alloc (Obj.cells #[Value.bool c, Value.slice va vn vc, Value.slice ea en ec] 24)).alloc (Obj.cells #[Value.bool false, Value.slice none 0 0, Value.slice none 0 0] 24)) := ⟨_, rfl⟩
  have HB1 : Hid (Below w.heap.size w w1) := Lib.hid (by rw [hw1]; exact (((Below.refl _ _).alloc (Nat.le_refl _) _).alloc (by simp) _).alloc (by simp; omega) _)
  have HX : Hid (w1.heap[w.heap.size]? = some (.cells #[Value.bool b, Value.slice ua un uc, Value.slice da dn dc] 24 (0, 0))) := Lib.hid (by rw [hw1]; exact alloc3_0 w _ _ _)
  have HY : Hid (w1.heap[w.heap.size + 1]? = some (.cells #[Value.bool c, Value.slice va vn vc, Value.slice ea en ec] 24 (0, 0))) := Lib.hid (by rw [hw1]; exact alloc3_1 w _ _ _)
  have HR : Hid (w1.heap[w.heap.size + 2]? = some (.cells #[Value.bool false, Value.slice none 0 0, Value.slice none 0 0] 24 (0, 0))) := Lib.hid (by rw [hw1]; exact alloc3_new w _ _ _)
  have HW1 := Lib.hid hw1.symm
  clear hw1
  have HL1 : Hid ((digs P.num.natAbs).length + (digs P.den).length ≤ 4096) := Lib.hid h1
  have HL2 : Hid ((digs S.num.natAbs).length + (digs S.den).length ≤ 4096) := Lib.hid h2
  have HBP := Lib.hid hb
  have HCS := Lib.hid hc
  have HU := Lib.hid (hu.below HB1.out)
  have HD := Lib.hid (hd.below HB1.out)
  have HU2 := Lib.hid (hu2.below HB1.out)
  have HD2 := Lib.hid (hd2.below HB1.out)
  obtain ⟨N, hN⟩ : ∃ N, N = P.num.natAbs * S.num.natAbs := ⟨_, rfl⟩
  obtain ⟨D, hD⟩ : ∃ D, D = P.den * S.den := ⟨_, rfl⟩
  obtain ⟨Q, hQ⟩ : ∃ Q, Q = cutR (P * S) := ⟨_, rfl⟩
  have HN := Lib.hid hN
  have HDD := Lib.hid hD
  have HQ := Lib.hid hQ
  rw [← hQ]
  clear hu hd hu2 hd2 hb hc h1 h2 hN hD hQ
  have K1 := Lib.hid (fun w' (hb : Below w1.heap.size w1 w') => rtimes_w (w := w') (HU.out.below hb) (HU2.out.below hb) (by have := HL1.out; have := HL2.out; omega))
  have K2 := Lib.hid (fun w' (hb : Below w1.heap.size w1 w') => rtimes_w (w := w') (HD.out.below hb) (HD2.out.below hb) (by have := HL1.out; have := HL2.out; omega))
  rw [← HN.out] at K1
  rw [← HDD.out] at K2
  have K3 := Lib.hid (fun w' x y (h : IsW w' x (digs N)) (k : IsW w' y (digs D)) => rlowest_w (w := w') (u := x) (v := y) (b := b != c) (z := P.num * S.num) (y := D) (by rw [Int.natAbs_mul, ← HN.out]; exact h) k (by rw [HDD.out]; exact Nat.mul_pos (Nat.pos_of_ne_zero P.den_nz) (Nat.pos_of_ne_zero S.den_nz)) (fun h9 => by rw [HBP.out, HCS.out]; exact sign_mul h9) (by rw [Int.natAbs_mul]; have h9 := len_digs_mul P.num.natAbs S.num.natAbs; have := HL1.out; have := HL2.out; omega) (by rw [HDD.out]; have h9 := len_digs_mul P.den S.den; have := HL1.out; have := HL2.out; omega))
  rw [HDD.out, ← Rat.mul_def', ← HQ.out, ← HDD.out] at K3
  have R0 : Hid (∀ o v, (#[Value.bool false, Value.slice none 0 0, Value.slice none 0 0] : Array Value)[o]? = some v → ∀ w', Below w1.heap.size w1 w' → w'.cell? ⟨w.heap.size + 2, o, none⟩ = some v ∧ w'.frozen? ⟨w.heap.size + 2, o, none⟩ = false) :=
    Lib.hid (fun o v h w' hb => ⟨cells_later HR.out o v h w' hb, frozen_of_row _ _ o _ _ ((hb.block _ (lt_of_block HR.out)).trans HR.out)⟩)
  have RX := Lib.hid (cells_later HX.out)
  have RY := Lib.hid (cells_later HY.out)
  have hz1 := Below.refl w1.heap.size w1
  have x0 := RX.out 0 _ rfl _ hz1
  have x1 := RX.out 1 _ rfl _ hz1
  have x2 := RX.out 2 _ rfl _ hz1
  have y0 := RY.out 0 _ rfl _ hz1
  have y1 := RY.out 1 _ rfl _ hz1
  have y2 := RY.out 2 _ rfl _ hz1
  have hz0 : Below w1.heap.size w1 w1.drew := below_drewN (Below.refl _ _) 1
  go_enter Try.func72, Try.ntmps72
  go_wp2_with fail
  rw [HW1.out]
  go_region_held3 (fun w' => w'.cell? ⟨w.heap.size, 0, none⟩ = some (.bool b) ∧ w'.cell? ⟨w.heap.size, 1, none⟩ = some (.slice ua un uc) ∧ w'.cell? ⟨w.heap.size, 2, none⟩ = some (.slice da dn dc) ∧ w'.cell? ⟨w.heap.size + 1, 0, none⟩ = some (.bool c) ∧ w'.cell? ⟨w.heap.size + 1, 1, none⟩ = some (.slice va vn vc) ∧ w'.cell? ⟨w.heap.size + 1, 2, none⟩ = some (.slice ea en ec))
    (((try dsimp only); refine ⟨?_, ?_, ?_, ?_, ?_, ?_⟩ <;> (first | exact RX.out _ _ rfl _ (by assumption) | exact RY.out _ _ rfl _ (by assumption) | (rw [World.cell?_setCell_far _ _ _ _ (by dsimp only; omega), World.cell?_setCell_far _ _ _ _ (by dsimp only; omega), World.cell?_setCell_far _ _ _ _ (by dsimp only; omega)]; first | exact RX.out _ _ rfl _ (by assumption) | exact RY.out _ _ rfl _ (by assumption)) | go_keep)))
    (first | (go_at_call_of 83 (Value.slice ua un uc); refine (K1.out _ hz0).mono ?_; rintro en4 w4 ⟨⟨r4, rfl, hr4, ho4⟩, hb4⟩; obtain ⟨a4, n4, c4, he4⟩ := hr4.form; subst he4; have hz4 := below_trans hz0 hb4) | (go_at_call 83; refine (K2.out _ hz4).mono ?_; rintro en5 w5 ⟨⟨r5, rfl, hr5, ho5⟩, hb5⟩; obtain ⟨a5, n5, c5, he5⟩ := hr5.form; subst he5; have hz5 := below_trans hz4 hb5) | (go_at_call 78; refine (K3.out _ _ _ (hr4.below hb5) hr5).mono ?_; rintro en6 w6 ⟨⟨r6, rfl, f6⟩, hb6⟩; obtain ⟨a6, n6, c6, i6, j6, k6, hq6⟩ := frac_form f6; subst hq6; have hz6 := below_trans hz5 hb6; have r0 := (R0.out 0 _ rfl _ hz6).1; have r1 := (R0.out 1 _ rfl _ hz6).1; have r2 := (R0.out 2 _ rfl _ hz6).1; have f0 := (R0.out 0 _ rfl _ hz6).2; have f1 := (R0.out 1 _ rfl _ hz6).2; have f2 := (R0.out 2 _ rfl _ hz6).2))
  have HR6 : Hid (w6.heap[w.heap.size + 2]? = some (.cells #[Value.bool false, Value.slice none 0 0, Value.slice none 0 0] 24 (0, 0))) := Lib.hid ((hz6.block _ (lt_of_block HR.out)).trans HR.out)
  have HF6 := Lib.hid (f6.other HR6.out (frac3_only _ _ (decide (Q.num < 0)) (Value.slice a6 n6 c6) (Value.slice i6 j6 k6)))
  have HB6 := Lib.hid (below_trans HB1.out hz6)
  clear r0 r1 r2 f0 f1 f2
  have r0 := (R0.out 0 _ rfl _ hz6).1
  have r1 := (R0.out 1 _ rfl _ hz6).1
  have r2 := (R0.out 2 _ rfl _ hz6).1
  have f0 := (R0.out 0 _ rfl _ hz6).2
  have f1 := (R0.out 1 _ rfl _ hz6).2
  have f2 := (R0.out 2 _ rfl _ hz6).2
  go_wp2_with fail
  exact bodyPost_ret (results_cell_row rfl _ _ (w.heap.size + 2) _ _ _ _ rfl (frac3_heap HR6.out) Try.underlying24 rfl ifrac) rfl ⟨⟨_, rfl, HF6.out⟩, below_only HB6.out (frac3_only _ _ _ _ _) (by omega)⟩
end Go.Proofs.Ytebgkfcglmjokaa
