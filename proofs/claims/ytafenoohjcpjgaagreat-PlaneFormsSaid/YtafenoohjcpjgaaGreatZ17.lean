/- Several texts in one: U. -/
import Derived.Test.YtafenoohjcpjgaaGreatZ16
import Derived.Deep.CutBlock
import Derived.Deep.DeepCutAuto
import Derived.Deep.DrawnRows
/- Several texts in one: U1, U2, U3, U3a, U3b, U3c, U4, U5, U6. -/
namespace Go.Proofs.YtafenoohjcpjgaaGreat
open Go.RowKit
attribute [local go_sem ↓] Go.wp_at_zero Go.wp_at_succ

theorem IsW.lenE {w : World} {a : Option Addr} {n c : Nat} {l : List Nat} (h : IsW w (.slice a n c) l) : n = l.length := by
  obtain ⟨a', n', c', he, hn⟩ := h.form_len
  simp only [Value.slice.injEq] at he
  obtain ⟨-, rfl, -⟩ := he
  exact hn
theorem frac_cells {b : Bool} {a i : Option Addr} {n c j k : Nat} : ∀ (x y : Nat), (#[Value.bool b, Value.slice a n c, Value.slice i j k] : Array Value)[x]? ≠ some (U y) := by
  intro x y h
  match x, h with
  | 0, h => simp [U] at h
  | 1, h => simp [U] at h
  | 2, h => simp [U] at h
  | (x + 3), h => simp at h
theorem FracV.other {w w' : World} {v : Value} {q : Rat} {B : Nat} {t : TypeId} {fr : Nat × Nat} {b : Bool} {a i : Option Addr} {n c j k : Nat} (h : FracV w v q) (hB : w.heap[B]? = some (.cells #[Value.bool b, Value.slice a n c, Value.slice i j k] t fr)) (ho : Only B w w') : FracV w' v q := by
  obtain ⟨u, d, rfl, hu, hd⟩ := h
  exact ⟨u, d, rfl, hu.other hB frac_cells ho, hd.other hB frac_cells ho⟩

/-- The words of a number above 0, and whether it is 1, as the walk reads it. -/
theorem word_test {w : World} {v : Value} {y : Nat} (h : IsW w v (digs y)) (hy : 0 < y) :
    ∃ b off n c d, v = .slice (some ⟨b, off, none⟩) n c ∧ n = (digs y).length ∧ 0 < n ∧ (∀ w', Below w.heap.size w w' → w'.cell? ⟨b, off, none⟩ = some (.int .u32 (d : Nat))) ∧ ((1 < n ∧ oneB y = false) ∨ (n = 1 ∧ d ≠ 1 ∧ oneB y = false) ∨ (n = 1 ∧ d = 1 ∧ oneB y = true)) := by
  obtain ⟨a, n, c, rfl, hn, hc⟩ := slice_len h
  have h0 : 0 < n := by rw [hn, digs_pos (by omega)]; simp
  obtain ⟨b, off, rfl, hd⟩ := hc h0
  refine ⟨b, off, n, c, nth (digs y) 0, rfl, hn, h0, fun w' hb => hd 0 h0 w' hb, ?_⟩
  by_cases h1 : n = 1
  · have e := val_one (m := digs y) (by omega)
    rw [val_digs] at e
    rw [← e]
    by_cases hy1 : y = 1
    · exact Or.inr (Or.inr ⟨h1, hy1, by simp [oneB, hy1]⟩)
    · exact Or.inr (Or.inl ⟨h1, hy1, by simp [oneB, hy1]⟩)
  · refine Or.inl ⟨by omega, ?_⟩
    have : y ≠ 1 := fun e => by rw [e, digs_one] at hn; simp at hn; omega
    simp [oneB, this]

theorem low_facts {z : Int} {y : Nat} (hy : y ≠ 0) :
    (mkRat z y).num.natAbs = z.natAbs / Nat.gcd z.natAbs y ∧ (mkRat z y).den = y / Nat.gcd z.natAbs y ∧ decide ((mkRat z y).num < 0) = decide (z < 0) := by
  have hg : 0 < Nat.gcd z.natAbs y := Nat.gcd_pos_of_pos_right _ (by omega)
  have hz := mkRat_num_mul (z := z) hy
  refine ⟨?_, mkRat_den hy, ?_⟩
  · have h2 := congrArg Int.natAbs hz
    rw [Int.natAbs_mul, Int.natAbs_natCast] at h2
    exact (Nat.div_eq_of_eq_mul_left hg h2).symm
  · have hgi : (0 : Int) < (Nat.gcd z.natAbs y : Nat) := by omega
    rw [decide_eq_decide]
    constructor
    · intro h
      have h3 := Int.mul_neg_of_neg_of_pos h hgi
      rwa [← hz] at h3
    · intro h
      by_cases hq : (mkRat z y).num < 0
      · exact hq
      · have h3 := Int.mul_nonneg (Int.not_lt.1 hq) (Int.le_of_lt hgi)
        rw [← hz] at h3
        omega
theorem cut_zero (y : Nat) : cutR (mkRat 0 y) = 0 := by
  rw [Rat.zero_mkRat]; unfold cutR; split <;> rfl

set_option maxRecDepth 8000 in
set_option maxHeartbeats 4000000 in
theorem rlowest_w {w : World} {u v : Value} {b : Bool} {z : Int} {y : Nat} (hu : IsW w u (digs z.natAbs)) (hv : IsW w v (digs y)) (hy : 0 < y) (hb : z ≠ 0 → b = decide (z < 0)) (hlz : (digs z.natAbs).length < 1073741824) (hly : (digs y).length < 1073741824) :
    Calls Tryz.prog 144 #[.bool b, u, v] w fun e w' => (∃ r, e = .returned r ∧ FracV w' r (cutR (mkRat z y))) ∧ Below w.heap.size w w' := by
  obtain ⟨w1, hw1⟩ : ∃ w1, w1 = w.alloc (Obj.cells #[Value.bool false, Value.slice none 0 0, Value.slice none 0 0] 43) := ⟨_, rfl⟩
  have HB1 : Hid (Below w.heap.size w w1) := Lib.hid (by rw [hw1]; exact (Below.refl _ _).alloc (Nat.le_refl _) _)
  have HR1 : Hid (w1.heap[w.heap.size]? = some (.cells #[Value.bool false, Value.slice none 0 0, Value.slice none 0 0] 43 (0, 0))) := Lib.hid (by rw [hw1]; exact heap_alloc_new w _)
  have HW1 := Lib.hid hw1.symm
  clear hw1
  have HU := Lib.hid (hu.below HB1.out)
  have HV := Lib.hid (hv.below HB1.out)
  have HLZ := Lib.hid hlz
  have HLY := Lib.hid hly
  obtain ⟨vb, vo, vn, vc, vd, rfl, hvn, hvn0, hvc, hvt⟩ := word_test hv hy
  have HVC := Lib.hid hvc
  have HVT := Lib.hid hvt
  obtain ⟨ua, un, uc, rfl, hun⟩ := hu.form_len
  have HUN := Lib.hid hun
  have hun9 : un < 1073741824 := by omega
  have hvn9 : vn < 1073741824 := by omega
  by_cases hz0 : z = 0
  · have t0 : ((un : Int) == 0) = true := by
      have h9 : (digs z.natAbs).length = 0 := by rw [hz0]; simp [digs_zero]
      simp; omega
    have HF : Hid (cutR (mkRat z y) = 0) := Lib.hid (by rw [hz0]; exact cut_zero y)
    clear hu hv hy hb hlz hly hvn hvc hvt hun hz0
    go_enter Tryz.func144, Tryz.ntmps144
    go_wp2_with fail
    rw [HW1.out]
    refine rzero_w.mono ?_
    rintro enz wz ⟨⟨rz, rfl, fz⟩, hbz⟩
    obtain ⟨uz, dz, rfl, huz, hdz⟩ := fz
    obtain ⟨az, nz, cz, hez⟩ := huz.form
    subst hez
    obtain ⟨iz, jz, kz, hfz⟩ := hdz.form
    subst hfz
    have HUZ := Lib.hid huz
    have HDZ := Lib.hid hdz
    have HBZ := Lib.hid (below_trans HB1.out hbz)
    have HRZ : Hid (wz.heap[w.heap.size]? = some (.cells #[Value.bool false, Value.slice none 0 0, Value.slice none 0 0] 43 (0, 0))) := Lib.hid ((hbz.block _ (lt_of_block HR1.out)).trans HR1.out)
    have r0 := cells_later HRZ.out 0 _ rfl _ (Below.refl _ _)
    have r1 := cells_later HRZ.out 1 _ rfl _ (Below.refl _ _)
    have r2 := cells_later HRZ.out 2 _ rfl _ (Below.refl _ _)
    have f0 := frozen_of_row _ _ 0 _ _ HRZ.out
    have f1 := frozen_of_row _ _ 1 _ _ HRZ.out
    have f2 := frozen_of_row _ _ 2 _ _ HRZ.out
    clear huz hdz hbz
    go_wp2_with fail
    have h9 := frac3_q (q := 0) HRZ.out HUZ.out HDZ.out
    exact bodyPost_ret (results_cell_row rfl _ _ (w.heap.size) _ _ _ _ rfl (frac3_heap HRZ.out) Tryz.underlying43 rfl ifrac) rfl ⟨⟨_, rfl, by rw [HF.out]; exact h9⟩, below_only HBZ.out (frac3_only _ _ _ _ _) (by omega)⟩
  · have h9 : (digs z.natAbs).length ≠ 0 := by rw [digs_pos (by omega)]; simp
    have t0 : ((un : Int) == 0) = false := by simp; omega
    have HZ0 := Lib.hid hz0
    have hy0 : y ≠ 0 := by omega
    obtain ⟨hq1, hq2, hq3⟩ := low_facts (z := z) hy0
    rw [← hb hz0] at hq3
    obtain ⟨q, hq⟩ : ∃ q, q = mkRat z y := ⟨_, rfl⟩
    rw [← hq] at hq1 hq2 hq3 ⊢
    obtain ⟨G, hG⟩ : ∃ G, G = Nat.gcd z.natAbs y := ⟨_, rfl⟩
    have HG0 : Hid (0 < G) := Lib.hid (by rw [hG]; exact Nat.gcd_pos_of_pos_right _ hy)
    have HCM := Lib.hid (rcommon_w HU.out HV.out HLZ.out HLY.out)
    rw [← hG] at hq1 hq2 HCM
    have HQN := Lib.hid hq1
    have HQD := Lib.hid hq2
    have HQB := Lib.hid hq3
    have HG := Lib.hid hG
    obtain ⟨tb, htb⟩ : ∃ t, t = !oneB y := ⟨_, rfl⟩
    have HTB := Lib.hid htb
    clear hu hv hy hb hlz hly hvn hvc hvt hun hz0 h9 hy0 hq1 hq2 hq3 hq hG htb
    go_enter Tryz.func144, Tryz.ntmps144
    go_upto_region 3 with fail
    rw [HW1.out]
    go_cut [22] (fun c wr => c = .bool tb ∧ w1 = wr)
    case first =>
      have g0 := HVC.out _ HB1.out
      rcases HVT.out with ⟨h1, h2⟩ | ⟨h1, h2, h3⟩ | ⟨h1, h2, h3⟩
      · have t1 : decide ((1 : Int) < (vn : Int)) = true := by simp; omega
        have HF : Hid (tb = true) := Lib.hid (by rw [HTB.out, h2]; rfl)
        clear h1 h2
        go_wp2_with fail
        go_meet
        exact ⟨by rw [HF.out], rfl⟩
      · have t1 : decide ((1 : Int) < (vn : Int)) = false := by simp; omega
        have t2 : ((vd : Int) == 1) = false := by simp; omega
        have t3 : ((vd : Int) != 1) = true := by simp; omega
        have HF : Hid (tb = true) := Lib.hid (by rw [HTB.out, h3]; rfl)
        clear h1 h2 h3
        go_wp2_with fail
        go_meet
        exact ⟨by rw [HF.out], rfl⟩
      · have t1 : decide ((1 : Int) < (vn : Int)) = false := by simp; omega
        have t2 : ((vd : Int) == 1) = true := by simp; omega
        have t3 : ((vd : Int) != 1) = false := by simp; omega
        have HF : Hid (tb = false) := Lib.hid (by rw [HTB.out, h3]; rfl)
        clear h1 h2 h3
        go_wp2_with fail
        go_meet
        exact ⟨by rw [HF.out], rfl⟩
    case rest =>
      obtain ⟨rfl, rfl⟩ := hcut
      go_upto_if 22 with fail
      go_cut [1, 2] (fun nv ev wr => ∃ (na : Option Addr) (nn nc : Nat) (ea : Option Addr) (en ec : Nat), nv = .slice na nn nc ∧ ev = .slice ea en ec ∧ Hid (IsW wr (.slice na nn nc) (digs q.num.natAbs)) ∧ Hid (IsW wr (.slice ea en ec) (digs q.den)) ∧ Hid (Below w1.heap.size w1 wr))
      case first =>
        cases tb with
        | false =>
          have HY1 : Hid (y = 1) := Lib.hid (by have := HTB.out; simpa [oneB] using this)
          have HE : Hid (q.num.natAbs = z.natAbs ∧ q.den = y) := Lib.hid (by rw [HQN.out, HQD.out, HG.out, HY1.out]; simp)
          go_wp2_with fail
          go_meet
          exact ⟨_, _, _, _, _, _, rfl, rfl, Lib.hid (by rw [HE.out.1]; exact HU.out), Lib.hid (by rw [HE.out.2]; exact HV.out), Lib.hid (Below.refl _ _)⟩
        | true =>
          go_wp2_with fail
          refine HCM.out.mono ?_
          rintro en2 w2 ⟨⟨g2, rfl, hg2⟩, hb2⟩
          have HG2 := Lib.hid hg2
          have HB2 := Lib.hid hb2
          obtain ⟨gb, go9, gn, gc, gd, rfl, hgn, hgn0, hgc, hgt⟩ := word_test hg2 HG0.out
          have HGC := Lib.hid hgc
          have HGT := Lib.hid hgt
          obtain ⟨sb, hsb⟩ : ∃ t, t = !oneB G := ⟨_, rfl⟩
          have HSB := Lib.hid hsb
          have hgn9 : gn ≤ 1073741824 := by have := hg2.len; omega
          clear hg2 hb2 hgn hgc hgt hsb
          go_upto_region 5 with fail
          go_cut [34] (fun c wr => c = .bool sb ∧ w2 = wr)
          case first =>
            have g0 := HGC.out _ (Below.refl _ _)
            rcases HGT.out with ⟨h1, h2⟩ | ⟨h1, h2, h3⟩ | ⟨h1, h2, h3⟩
            · have t1 : decide ((1 : Int) < (gn : Int)) = true := by simp; omega
              have HF : Hid (sb = true) := Lib.hid (by rw [HSB.out, h2]; rfl)
              clear h1 h2
              go_wp2_with fail
              go_meet
              exact ⟨by rw [HF.out], rfl⟩
            · have t1 : decide ((1 : Int) < (gn : Int)) = false := by simp; omega
              have t2 : ((gd : Int) == 1) = false := by simp; omega
              have t3 : ((gd : Int) != 1) = true := by simp; omega
              have HF : Hid (sb = true) := Lib.hid (by rw [HSB.out, h3]; rfl)
              clear h1 h2 h3
              go_wp2_with fail
              go_meet
              exact ⟨by rw [HF.out], rfl⟩
            · have t1 : decide ((1 : Int) < (gn : Int)) = false := by simp; omega
              have t2 : ((gd : Int) == 1) = true := by simp; omega
              have t3 : ((gd : Int) != 1) = false := by simp; omega
              have HF : Hid (sb = false) := Lib.hid (by rw [HSB.out, h3]; rfl)
              clear h1 h2 h3
              go_wp2_with fail
              go_meet
              exact ⟨by rw [HF.out], rfl⟩
          case rest =>
            obtain ⟨rfl, rfl⟩ := hcut
            cases sb with
            | false =>
              have HY1 : Hid (G = 1) := Lib.hid (by have := HSB.out; simpa [oneB] using this)
              have HE : Hid (q.num.natAbs = z.natAbs ∧ q.den = y) := Lib.hid (by rw [HQN.out, HQD.out, HY1.out]; simp)
              go_wp2_with fail
              go_meet
              exact ⟨_, _, _, _, _, _, rfl, rfl, Lib.hid (by rw [HE.out.1]; exact HU.out.below HB2.out), Lib.hid (by rw [HE.out.2]; exact HV.out.below HB2.out), Lib.hid HB2.out⟩
            | true =>
              have HP1 := Lib.hid (rparts_w (HU.out.below HB2.out) HG2.out HG0.out HLZ.out)
              have HP2 := Lib.hid (fun w' (hb : Below w2.heap.size w2 w') => rparts_w (w := w') ((HV.out.below HB2.out).below hb) (HG2.out.below hb) HG0.out HLY.out)
              go_wp2_with fail
              refine HP1.out.mono ?_
              rintro en3 w3 ⟨⟨q3, r3, rfl, hq3, hr3⟩, hb3⟩
              obtain ⟨a3, n3, c3, he3⟩ := hq3.form
              subst he3
              obtain ⟨i3, j3, k3, hf3⟩ := hr3.form
              subst hf3
              go_wp2_with fail
              refine (HP2.out _ hb3).mono ?_
              rintro en4 w4 ⟨⟨q4, r4, rfl, hq4, hr4⟩, hb4⟩
              obtain ⟨a4, n4, c4, he4⟩ := hq4.form
              subst he4
              obtain ⟨i4, j4, k4, hf4⟩ := hr4.form
              subst hf4
              have HQ3 := Lib.hid (hq3.below hb4)
              have HQ4 := Lib.hid hq4
              have HB4 := Lib.hid (below_trans HB2.out (below_trans hb3 hb4))
              clear hq3 hr3 hq4 hr4 hb3 hb4 HP1 HP2
              go_wp2_with ((with_reducible refine at_store ?_); refine wpList_store_var rfl _ _ _ rfl w4.heap.size rfl _ rfl _ _ (heap_alloc2_old w4 _ _) iparts rfl two_one ?_; intro w6 h6 hon6; refine halt ?_)
              have hb6 : Below w4.heap.size w4 w6 := below_only (((Below.refl _ _).alloc (Nat.le_refl _) _).alloc (by simp) _) hon6 (Nat.le_refl _)
              have hy6 := (hon6.block (w4.heap.size + 1) (by omega)).trans (heap_alloc2_new w4 _ _)
              have HH6 := Lib.hid h6
              have HB6 := Lib.hid hb6
              have HY6 := Lib.hid hy6
              clear h6 hon6 hb6 hy6
              refine go_on ?_
              go_wp2_with ((with_reducible refine at_store ?_); refine wpList_store_var rfl _ _ _ rfl (w4.heap.size + 1) rfl _ rfl _ _ HY6.out iparts rfl two_one ?_; intro w7 h7 hon7; refine halt ?_)
              have HX7 := Lib.hid ((hon7.block w4.heap.size (by omega)).trans HH6.out)
              have HB7 := Lib.hid (below_only HB6.out hon7 (by omega))
              have s0 := cells_later HX7.out 0 _ rfl _ (Below.refl _ _)
              have s1 := cells_later HX7.out 1 _ rfl _ (Below.refl _ _)
              have s2 := cells_later h7 0 _ rfl _ (Below.refl _ _)
              have s3 := cells_later h7 1 _ rfl _ (Below.refl _ _)
              have HN7 : Hid (IsW w7 (Value.slice a3 n3 c3) (digs q.num.natAbs)) := Lib.hid (by rw [HQN.out]; exact HQ3.out.below HB7.out)
              have HD7 : Hid (IsW w7 (Value.slice a4 n4 c4) (digs q.den)) := Lib.hid (by rw [HQD.out]; exact HQ4.out.below HB7.out)
              have HW7 := Lib.hid (below_trans HB4.out HB7.out)
              clear h7 hon7
              refine go_on ?_
              go_wp2_with fail
              go_quiet (fail)
              go_wp2_with fail
              go_meet
              exact ⟨_, _, _, _, _, _, rfl, rfl, Lib.hid (HN7.out.drewN _), Lib.hid (HD7.out.drewN _), Lib.hid (below_drewN HW7.out _)⟩
      case rest =>
        obtain ⟨w8, rfl⟩ : ∃ w8 : World, w8 = wc := ⟨_, rfl⟩
        obtain ⟨na, nn, nc, ea, en, ec, rfl, rfl, HN8, HD8, HB8⟩ := hcut
        have hnn := HN8.out.lenE
        have hen := HD8.out.lenE
        have hnn9 : nn ≤ 1073741824 := by have := HN8.out.len; omega
        have hen9 : en ≤ 1073741824 := by have := HD8.out.len; omega
        have HW8 := Lib.hid (below_trans HB1.out HB8.out)
        have HR8 : Hid (w8.heap[w.heap.size]? = some (.cells #[Value.bool false, Value.slice none 0 0, Value.slice none 0 0] 43 (0, 0))) := Lib.hid ((HB8.out.block _ (lt_of_block HR1.out)).trans HR1.out)
        by_cases hlen : lenQ q ≤ 4096
        · have HC : Hid (cutR q = q) := Lib.hid (cut_id hlen)
          unfold lenQ at hlen
          have t1 : decide ((4096 : Int) < (nn : Int) + (en : Int)) = false := by simp; omega
          have r0 := cells_later HR8.out 0 _ rfl _ (Below.refl _ _)
          have r1 := cells_later HR8.out 1 _ rfl _ (Below.refl _ _)
          have r2 := cells_later HR8.out 2 _ rfl _ (Below.refl _ _)
          have f0 := frozen_of_row _ _ 0 _ _ HR8.out
          have f1 := frozen_of_row _ _ 1 _ _ HR8.out
          have f2 := frozen_of_row _ _ 2 _ _ HR8.out
          clear hlen hnn hen
          go_wp2_with fail
          have h9 := frac3_q (q := q) HR8.out HN8.out HD8.out
          rw [HQB.out] at h9
          exact bodyPost_ret (results_cell_row rfl _ _ w.heap.size _ _ _ _ rfl (frac3_heap HR8.out) Tryz.underlying43 rfl ifrac) rfl ⟨⟨_, rfl, by rw [HC.out]; exact h9⟩, below_only HW8.out (frac3_only _ _ _ _ _) (by omega)⟩
        · have HF : Hid (cutR q = 0) := Lib.hid (by unfold cutR; rw [if_neg hlen])
          unfold lenQ at hlen
          have t1 : decide ((4096 : Int) < (nn : Int) + (en : Int)) = true := by simp; omega
          clear hlen hnn hen
          go_wp2_with fail
          refine rzero_w.mono ?_
          rintro enz wz ⟨⟨rz, rfl, fz⟩, hbz⟩
          obtain ⟨uz, dz, rfl, huz, hdz⟩ := fz
          obtain ⟨az, nz, cz, hez⟩ := huz.form
          subst hez
          obtain ⟨iz, jz, kz, hfz⟩ := hdz.form
          subst hfz
          have HUZ := Lib.hid huz
          have HDZ := Lib.hid hdz
          have HBZ := Lib.hid (below_trans HW8.out hbz)
          have HRZ : Hid (wz.heap[w.heap.size]? = some (.cells #[Value.bool false, Value.slice none 0 0, Value.slice none 0 0] 43 (0, 0))) := Lib.hid ((hbz.block _ (lt_of_block HR8.out)).trans HR8.out)
          have r0 := cells_later HRZ.out 0 _ rfl _ (Below.refl _ _)
          have r1 := cells_later HRZ.out 1 _ rfl _ (Below.refl _ _)
          have r2 := cells_later HRZ.out 2 _ rfl _ (Below.refl _ _)
          have f0 := frozen_of_row _ _ 0 _ _ HRZ.out
          have f1 := frozen_of_row _ _ 1 _ _ HRZ.out
          have f2 := frozen_of_row _ _ 2 _ _ HRZ.out
          clear huz hdz hbz
          go_wp2_with fail
          have h9 := frac3_q (q := 0) HRZ.out HUZ.out HDZ.out
          exact bodyPost_ret (results_cell_row rfl _ _ (w.heap.size) _ _ _ _ rfl (frac3_heap HRZ.out) Tryz.underlying43 rfl ifrac) rfl ⟨⟨_, rfl, by rw [HF.out]; exact h9⟩, below_only HBZ.out (frac3_only _ _ _ _ _) (by omega)⟩

theorem sign_mul {x y : Int} (h : x * y ≠ 0) : (decide (x < 0) != decide (y < 0)) = decide (x * y < 0) := by
  have hx : x ≠ 0 := fun e => h (by rw [e, Int.zero_mul])
  have hy : y ≠ 0 := fun e => h (by rw [e, Int.mul_zero])
  by_cases h1 : x < 0 <;> by_cases h2 : y < 0
  · have h3 := Int.mul_pos_of_neg_of_neg h1 h2
    have h4 : ¬ x * y < 0 := by omega
    simp [h1, h2, h4]
  · have h3 := Int.mul_neg_of_neg_of_pos h1 (show 0 < y by omega)
    simp [h1, h2, h3]
  · have h3 := Int.mul_neg_of_pos_of_neg (show 0 < x by omega) h2
    simp [h1, h2, h3]
  · have h3 := Int.mul_pos (show 0 < x by omega) (show 0 < y by omega)
    have h4 : ¬ x * y < 0 := by omega
    simp [h1, h2, h4]

set_option maxRecDepth 8000 in
set_option maxHeartbeats 2000000 in
theorem rproduct_w {w : World} {v t : Value} {P S : Rat} (hv : FracV w v P) (ht : FracV w t S) (h1 : lenQ P ≤ 4096) (h2 : lenQ S ≤ 4096) :
    Calls Tryz.prog 138 #[v, t] w fun e w' => (∃ r, e = .returned r ∧ FracV w' r (cutR (P * S))) ∧ Below w.heap.size w w' := by
  obtain ⟨u, d, rfl, hu, hd⟩ := hv
  obtain ⟨ua, un, uc, hue⟩ := hu.form
  subst hue
  obtain ⟨da, dn, dc, hde⟩ := hd.form
  subst hde
  obtain ⟨u2, d2, rfl, hu2, hd2⟩ := ht
  obtain ⟨va, vn, vc, hve⟩ := hu2.form
  subst hve
  obtain ⟨ea, en, ec, hee⟩ := hd2.form
  subst hee
  obtain ⟨b, hb⟩ : ∃ b, b = decide (P.num < 0) := ⟨_, rfl⟩
  obtain ⟨c, hc⟩ : ∃ b, b = decide (S.num < 0) := ⟨_, rfl⟩
  rw [← hb, ← hc]
  obtain ⟨w1, hw1⟩ : ∃ w1, w1 = (((w.alloc (Obj.cells #[Value.bool b, Value.slice ua un uc, Value.slice da dn dc] 43)).alloc (Obj.cells #[Value.bool c, Value.slice va vn vc, Value.slice ea en ec] 43)).alloc (Obj.cells #[Value.bool false, Value.slice none 0 0, Value.slice none 0 0] 43)) := ⟨_, rfl⟩
  have HB1 : Hid (Below w.heap.size w w1) := Lib.hid (by rw [hw1]; exact (((Below.refl _ _).alloc (Nat.le_refl _) _).alloc (by simp) _).alloc (by simp; omega) _)
  have HX : Hid (w1.heap[w.heap.size]? = some (.cells #[Value.bool b, Value.slice ua un uc, Value.slice da dn dc] 43 (0, 0))) := Lib.hid (by rw [hw1]; exact alloc3_0 w _ _ _)
  have HY : Hid (w1.heap[w.heap.size + 1]? = some (.cells #[Value.bool c, Value.slice va vn vc, Value.slice ea en ec] 43 (0, 0))) := Lib.hid (by rw [hw1]; exact alloc3_1 w _ _ _)
  have HR : Hid (w1.heap[w.heap.size + 2]? = some (.cells #[Value.bool false, Value.slice none 0 0, Value.slice none 0 0] 43 (0, 0))) := Lib.hid (by rw [hw1]; exact alloc3_new w _ _ _)
  have HW1 := Lib.hid hw1.symm
  clear hw1
  have HL1 : Hid ((digs P.num.natAbs).length + (digs P.den).length ≤ 4096) := Lib.hid h1
  have HL2 : Hid ((digs S.num.natAbs).length + (digs S.den).length ≤ 4096) := Lib.hid h2
  have HBP := Lib.hid hb
  have HCS := Lib.hid hc
  have HU := Lib.hid (hu.below HB1.out)
  have HD := Lib.hid (hd.below HB1.out)
  have HU2 := Lib.hid (hu2.below HB1.out)
  have HD2 := Lib.hid (hd2.below HB1.out)
  obtain ⟨N, hN⟩ : ∃ N, N = P.num.natAbs * S.num.natAbs := ⟨_, rfl⟩
  obtain ⟨D, hD⟩ : ∃ D, D = P.den * S.den := ⟨_, rfl⟩
  obtain ⟨Q, hQ⟩ : ∃ Q, Q = cutR (P * S) := ⟨_, rfl⟩
  have HN := Lib.hid hN
  have HDD := Lib.hid hD
  have HQ := Lib.hid hQ
  rw [← hQ]
  clear hu hd hu2 hd2 hb hc h1 h2 hN hD hQ
  have K1 := Lib.hid (fun w' (hb : Below w1.heap.size w1 w') => rtimes_w (w := w') (HU.out.below hb) (HU2.out.below hb) (by have := HL1.out; have := HL2.out; omega))
  have K2 := Lib.hid (fun w' (hb : Below w1.heap.size w1 w') => rtimes_w (w := w') (HD.out.below hb) (HD2.out.below hb) (by have := HL1.out; have := HL2.out; omega))
  rw [← HN.out] at K1
  rw [← HDD.out] at K2
  have K3 := Lib.hid (fun w' x y (h : IsW w' x (digs N)) (k : IsW w' y (digs D)) => rlowest_w (w := w') (u := x) (v := y) (b := b != c) (z := P.num * S.num) (y := D) (by rw [Int.natAbs_mul, ← HN.out]; exact h) k (by rw [HDD.out]; exact Nat.mul_pos (Nat.pos_of_ne_zero P.den_nz) (Nat.pos_of_ne_zero S.den_nz)) (fun h9 => by rw [HBP.out, HCS.out]; exact sign_mul h9) (by rw [Int.natAbs_mul]; have h9 := len_digs_mul P.num.natAbs S.num.natAbs; have := HL1.out; have := HL2.out; omega) (by rw [HDD.out]; have h9 := len_digs_mul P.den S.den; have := HL1.out; have := HL2.out; omega))
  rw [HDD.out, ← Rat.mul_def', ← HQ.out, ← HDD.out] at K3
  have R0 : Hid (∀ o v, (#[Value.bool false, Value.slice none 0 0, Value.slice none 0 0] : Array Value)[o]? = some v → ∀ w', Below w1.heap.size w1 w' → w'.cell? ⟨w.heap.size + 2, o, none⟩ = some v ∧ w'.frozen? ⟨w.heap.size + 2, o, none⟩ = false) :=
    Lib.hid (fun o v h w' hb => ⟨cells_later HR.out o v h w' hb, frozen_of_row _ _ o _ _ ((hb.block _ (lt_of_block HR.out)).trans HR.out)⟩)
  have RX := Lib.hid (cells_later HX.out)
  have RY := Lib.hid (cells_later HY.out)
  have hz1 := Below.refl w1.heap.size w1
  have x0 := RX.out 0 _ rfl _ hz1
  have x1 := RX.out 1 _ rfl _ hz1
  have x2 := RX.out 2 _ rfl _ hz1
  have y0 := RY.out 0 _ rfl _ hz1
  have y1 := RY.out 1 _ rfl _ hz1
  have y2 := RY.out 2 _ rfl _ hz1
  have hz0 : Below w1.heap.size w1 w1.drew := below_drewN (Below.refl _ _) 1
  go_enter Tryz.func138, Tryz.ntmps138
  go_wp2_with fail
  rw [HW1.out]
  go_region_held3 (fun w' => w'.cell? ⟨w.heap.size, 0, none⟩ = some (.bool b) ∧ w'.cell? ⟨w.heap.size, 1, none⟩ = some (.slice ua un uc) ∧ w'.cell? ⟨w.heap.size, 2, none⟩ = some (.slice da dn dc) ∧ w'.cell? ⟨w.heap.size + 1, 0, none⟩ = some (.bool c) ∧ w'.cell? ⟨w.heap.size + 1, 1, none⟩ = some (.slice va vn vc) ∧ w'.cell? ⟨w.heap.size + 1, 2, none⟩ = some (.slice ea en ec))
    (((try dsimp only); refine ⟨?_, ?_, ?_, ?_, ?_, ?_⟩ <;> (first | exact RX.out _ _ rfl _ (by assumption) | exact RY.out _ _ rfl _ (by assumption) | (rw [World.cell?_setCell_far _ _ _ _ (by dsimp only; omega), World.cell?_setCell_far _ _ _ _ (by dsimp only; omega), World.cell?_setCell_far _ _ _ _ (by dsimp only; omega)]; first | exact RX.out _ _ rfl _ (by assumption) | exact RY.out _ _ rfl _ (by assumption)) | go_keep)))
    (first | (go_at_call_of 95 (Value.slice ua un uc); refine (K1.out _ hz0).mono ?_; rintro en4 w4 ⟨⟨r4, rfl, hr4, ho4⟩, hb4⟩; obtain ⟨a4, n4, c4, he4⟩ := hr4.form; subst he4; have hz4 := below_trans hz0 hb4) | (go_at_call 95; refine (K2.out _ hz4).mono ?_; rintro en5 w5 ⟨⟨r5, rfl, hr5, ho5⟩, hb5⟩; obtain ⟨a5, n5, c5, he5⟩ := hr5.form; subst he5; have hz5 := below_trans hz4 hb5) | (go_at_call 144; refine (K3.out _ _ _ (hr4.below hb5) hr5).mono ?_; rintro en6 w6 ⟨⟨r6, rfl, f6⟩, hb6⟩; obtain ⟨a6, n6, c6, i6, j6, k6, hq6⟩ := frac_form f6; subst hq6; have hz6 := below_trans hz5 hb6; have r0 := (R0.out 0 _ rfl _ hz6).1; have r1 := (R0.out 1 _ rfl _ hz6).1; have r2 := (R0.out 2 _ rfl _ hz6).1; have f0 := (R0.out 0 _ rfl _ hz6).2; have f1 := (R0.out 1 _ rfl _ hz6).2; have f2 := (R0.out 2 _ rfl _ hz6).2))
  have HR6 : Hid (w6.heap[w.heap.size + 2]? = some (.cells #[Value.bool false, Value.slice none 0 0, Value.slice none 0 0] 43 (0, 0))) := Lib.hid ((hz6.block _ (lt_of_block HR.out)).trans HR.out)
  have HF6 := Lib.hid (f6.other HR6.out (frac3_only _ _ (decide (Q.num < 0)) (Value.slice a6 n6 c6) (Value.slice i6 j6 k6)))
  have HB6 := Lib.hid (below_trans HB1.out hz6)
  clear r0 r1 r2 f0 f1 f2
  have r0 := (R0.out 0 _ rfl _ hz6).1
  have r1 := (R0.out 1 _ rfl _ hz6).1
  have r2 := (R0.out 2 _ rfl _ hz6).1
  have f0 := (R0.out 0 _ rfl _ hz6).2
  have f1 := (R0.out 1 _ rfl _ hz6).2
  have f2 := (R0.out 2 _ rfl _ hz6).2
  go_wp2_with fail
  exact bodyPost_ret (results_cell_row rfl _ _ (w.heap.size + 2) _ _ _ _ rfl (frac3_heap HR6.out) Tryz.underlying43 rfl ifrac) rfl ⟨⟨_, rfl, HF6.out⟩, below_only HB6.out (frac3_only _ _ _ _ _) (by omega)⟩
end Go.Proofs.YtafenoohjcpjgaaGreat

/- The reference: quotients, whole numbers. -/
namespace Go.Proofs.YtafenoohjcpjgaaGreat
open Go.RowKit
attribute [local go_sem ↓] Go.wp_at_zero Go.wp_at_succ

theorem FracV.raw {w : World} {v : Value} {q : Rat} (h : FracV w v q) : RawF w v (decide (q.num < 0)) (digs q.num.natAbs) (digs q.den) := by
  obtain ⟨u, d, he, hu, hd⟩ := h
  exact ⟨u, d, he, hu, hd⟩
theorem frac_row {w : World} {R : Nat} {u d x y z : Value} {b : Bool} {t : TypeId} (hR : w.heap[R]? = some (.cells #[x, y, z] t (0, 0))) :
    (frac3 w R b u d).heap[R]? = some (.cells #[.bool b, u, d] t (0, 0)) :=
  heap_setCell_same _ _ 2 _ _ _ (heap_setCell_same _ _ 1 _ _ _ (heap_setCell_same _ _ 0 _ _ _ hR))
theorem frozen_at {w : World} {g : Nat} {cs : Array Value} {t : TypeId} (h : w.heap[g]? = some (.cells cs t (0, 0))) :
    ∀ (o : Nat) (w' : World), Below w.heap.size w w' → w'.frozen? ⟨g, o, none⟩ = false :=
  fun o _ hb => frozen_of_row _ _ o _ _ ((hb.block _ (lt_of_block h)).trans h)
theorem inv_len {S : Rat} (h0 : S.num ≠ 0) : lenQ S⁻¹ = lenQ S := by
  unfold lenQ
  rw [inv_num_natAbs, Rat.den_inv, if_neg h0, if_neg h0]; omega
/-- Two fractions stored over two others. -/
theorem stored2 {w w3 W : World} {M N : Nat} {t : TypeId} {b1 b2 : Bool} {a1 i1 a2 i2 a3 i3 a4 i4 : Option Addr} {n1 c1 j1 k1 n2 c2 j2 k2 n3 c3 j3 k3 n4 c4 j4 k4 : Nat} {A B : Rat}
    (hX : w3.heap[N]? = some (.cells #[.bool b1, .slice a1 n1 c1, .slice i1 j1 k1] t (0, 0))) (hY : w3.heap[N + 1]? = some (.cells #[.bool b2, .slice a2 n2 c2, .slice i2 j2 k2] t (0, 0)))
    (f1 : FracV w3 (.agg #[.bool (decide (A.num < 0)), .slice a3 n3 c3, .slice i3 j3 k3]) A) (f2 : FracV w3 (.agg #[.bool (decide (B.num < 0)), .slice a4 n4 c4, .slice i4 j4 k4]) B)
    (hb : Below M w w3) (hM : M ≤ N)
    (hW : W = frac3 (frac3 w3 N (decide (A.num < 0)) (.slice a3 n3 c3) (.slice i3 j3 k3)) (N + 1) (decide (B.num < 0)) (.slice a4 n4 c4) (.slice i4 j4 k4)) :
    W.heap[N]? = some (.cells #[.bool (decide (A.num < 0)), .slice a3 n3 c3, .slice i3 j3 k3] t (0, 0)) ∧ W.heap[N + 1]? = some (.cells #[.bool (decide (B.num < 0)), .slice a4 n4 c4, .slice i4 j4 k4] t (0, 0)) ∧
    FracV W (.agg #[.bool (decide (A.num < 0)), .slice a3 n3 c3, .slice i3 j3 k3]) A ∧ FracV W (.agg #[.bool (decide (B.num < 0)), .slice a4 n4 c4, .slice i4 j4 k4]) B ∧ Below M w W ∧ (∀ k, k ≠ N → k ≠ N + 1 → W.heap[k]? = w3.heap[k]?) := by
  obtain ⟨W1, hW1⟩ : ∃ x, x = frac3 w3 N (decide (A.num < 0)) (.slice a3 n3 c3) (.slice i3 j3 k3) := ⟨_, rfl⟩
  rw [← hW1] at hW
  have o1 : Only N w3 W1 := by rw [hW1]; exact frac3_only _ _ _ _ _
  have e1 : W1.heap[N]? = some (.cells #[.bool (decide (A.num < 0)), .slice a3 n3 c3, .slice i3 j3 k3] t (0, 0)) := by rw [hW1]; exact frac_row hX
  have hY1 := (o1.block (N + 1) (by omega)).trans hY
  have o2 : Only (N + 1) W1 W := by rw [hW]; exact frac3_only _ _ _ _ _
  have e2 : W.heap[N + 1]? = some (.cells #[.bool (decide (B.num < 0)), .slice a4 n4 c4, .slice i4 j4 k4] t (0, 0)) := by rw [hW]; exact frac_row hY1
  refine ⟨(o2.block N (by omega)).trans e1, e2, ?_, ?_, ?_, ?_⟩
  · exact (f1.other hX o1).other hY1 o2
  · exact (f2.other hX o1).other hY1 o2
  · exact below_only (below_only hb o1 hM) o2 (by omega)
  · exact fun k h1 h2 => (o2.block k h2).trans (o1.block k h1)

/-- What a quotient of the reference tells. -/
def RQuo (w : World) (z : Bool) (Q : Rat) (e : Ending) (w' : World) : Prop :=
  (if z then e = .returned (.tuple #[.agg #[Value.bool false, Value.slice none 0 0, Value.slice none 0 0], .int .i64 11]) else ∃ r, e = .returned (.tuple #[r, .int .i64 0]) ∧ FracV w' r Q) ∧ Below w.heap.size w w'

set_option maxRecDepth 100000 in
set_option maxHeartbeats 4000000 in
theorem rdiv_w {w : World} {v t : Value} {b c : Bool} {l m l2 m2 : List Nat} (hv : RawF w v b l m) (ht : RawF w t c l2 m2) (h1 : l.length + m.length ≤ 4096) (h2 : l2.length + m2.length ≤ 4096) :
    Calls Tryz.prog 119 #[v, t] w (RQuo w (zerB (fixR c l2 m2).num.natAbs) (cutR (fixR b l m * (fixR c l2 m2)⁻¹))) := by
  have HV := Lib.hid hv
  have HT := Lib.hid ht
  obtain ⟨u, d, rfl, hu, hd⟩ := hv
  obtain ⟨ua, un, uc, hue⟩ := hu.form
  subst hue
  obtain ⟨da, dn, dc, hde⟩ := hd.form
  subst hde
  obtain ⟨u2, d2, rfl, hu2, hd2⟩ := ht
  obtain ⟨va, vn, vc, hve⟩ := hu2.form
  subst hve
  obtain ⟨ea, en, ec, hee⟩ := hd2.form
  subst hee
  obtain ⟨w1, hw1⟩ : ∃ w1, w1 = (((w.alloc (Obj.cells #[Value.bool b, Value.slice ua un uc, Value.slice da dn dc] 43)).alloc (Obj.cells #[Value.bool c, Value.slice va vn vc, Value.slice ea en ec] 43)).alloc (Obj.cells #[Value.bool false, Value.slice none 0 0, Value.slice none 0 0] 43)) := ⟨_, rfl⟩
  have HB1 : Hid (Below w.heap.size w w1) := Lib.hid (by rw [hw1]; exact (((Below.refl _ _).alloc (Nat.le_refl _) _).alloc (by simp) _).alloc (by simp; omega) _)
  have HX : Hid (w1.heap[w.heap.size]? = some (.cells #[Value.bool b, Value.slice ua un uc, Value.slice da dn dc] 43 (0, 0))) := Lib.hid (by rw [hw1]; exact alloc3_0 w _ _ _)
  have HY : Hid (w1.heap[w.heap.size + 1]? = some (.cells #[Value.bool c, Value.slice va vn vc, Value.slice ea en ec] 43 (0, 0))) := Lib.hid (by rw [hw1]; exact alloc3_1 w _ _ _)
  have HR : Hid (w1.heap[w.heap.size + 2]? = some (.cells #[Value.bool false, Value.slice none 0 0, Value.slice none 0 0] 43 (0, 0))) := Lib.hid (by rw [hw1]; exact alloc3_new w _ _ _)
  have HW1 := Lib.hid hw1.symm
  have LP : Hid (lenQ (fixR b l m) ≤ 4096) := Lib.hid (fix_len hu.ws hd.ws)
  have LS : Hid (lenQ (fixR c l2 m2) ≤ 4096) := Lib.hid (fix_len hu2.ws hd2.ws)
  clear hw1 hu hd hu2 hd2
  have KF1 := Lib.hid (fun w' (hb : Below w1.heap.size w1 w') => rfix_w (w := w') (HV.out.below (below_trans HB1.out hb)) h1)
  have KF2 := Lib.hid (fun w' (hb : Below w1.heap.size w1 w') => rfix_w (w := w') (HT.out.below (below_trans HB1.out hb)) h2)
  obtain ⟨P, hP⟩ : ∃ P, P = fixR b l m := ⟨_, rfl⟩
  obtain ⟨S, hS⟩ : ∃ S, S = fixR c l2 m2 := ⟨_, rfl⟩
  rw [← hP, ← hS]
  rw [← hP] at LP KF1
  rw [← hS] at LS KF2
  obtain ⟨Q, hQ⟩ : ∃ Q, Q = cutR (P * S⁻¹) := ⟨_, rfl⟩
  have HQ := Lib.hid hQ
  rw [← hQ]
  clear hP hS h1 h2 hQ
  have RX := Lib.hid (cells_later HX.out)
  have RY := Lib.hid (cells_later HY.out)
  have FRX := Lib.hid (frozen_at HX.out)
  have FRY := Lib.hid (frozen_at HY.out)
  have hz1 := Below.refl w1.heap.size w1
  have x0 := RX.out 0 _ rfl _ hz1
  have x1 := RX.out 1 _ rfl _ hz1
  have x2 := RX.out 2 _ rfl _ hz1
  have y0 := RY.out 0 _ rfl _ hz1
  have y1 := RY.out 1 _ rfl _ hz1
  have y2 := RY.out 2 _ rfl _ hz1
  have hz0 : Below w1.heap.size w1 w1.drew := below_drewN (Below.refl _ _) 1
  go_enter Tryz.func119, Tryz.ntmps119
  go_wp2_with fail
  rw [HW1.out]
  go_cut [5] (fun ev wr => ev = .int .i64 0 ∧ ∃ (a11 : Option Addr) (n11 c11 : Nat) (i11 : Option Addr) (j11 k11 : Nat) (a12 : Option Addr) (n12 c12 : Nat) (i12 : Option Addr) (j12 k12 : Nat), Hid (wr.heap[w.heap.size]? = some (.cells #[Value.bool (decide (P.num < 0)), Value.slice a11 n11 c11, Value.slice i11 j11 k11] 43 (0, 0))) ∧ Hid (wr.heap[w.heap.size + 1]? = some (.cells #[Value.bool (decide (S.num < 0)), Value.slice a12 n12 c12, Value.slice i12 j12 k12] 43 (0, 0))) ∧ Hid (wr.heap[w.heap.size + 2]? = some (.cells #[Value.bool false, Value.slice none 0 0, Value.slice none 0 0] 43 (0, 0))) ∧ Hid (FracV wr (.agg #[Value.bool (decide (P.num < 0)), Value.slice a11 n11 c11, Value.slice i11 j11 k11]) P) ∧ Hid (FracV wr (.agg #[Value.bool (decide (S.num < 0)), Value.slice a12 n12 c12, Value.slice i12 j12 k12]) S) ∧ Hid (Below w.heap.size w wr))
  case first =>
    go_region_with (first | (go_at_call_of 59 (Value.slice ua un uc); refine (KF1.out _ hz0).mono ?_; rintro en11 w11 ⟨⟨v11, rfl, f11⟩, hb11⟩; obtain ⟨a11, n11, c11, i11, j11, k11, hq11⟩ := frac_form f11; subst hq11; have hz11 := below_trans hz0 hb11; have y0 := RY.out 0 _ rfl _ hz11; have y1 := RY.out 1 _ rfl _ hz11; have y2 := RY.out 2 _ rfl _ hz11) | (go_at_call_of 59 (Value.slice va vn vc); refine (KF2.out _ hz11).mono ?_; rintro en12 w12 ⟨⟨v12, rfl, f12⟩, hb12⟩; obtain ⟨a12, n12, c12, i12, j12, k12, hq12⟩ := frac_form f12; subst hq12; have hz12 := below_trans hz11 hb12; have x0 := RX.out 0 _ rfl _ hz12; have xf0 := FRX.out 0 _ hz12; have x1 := RX.out 1 _ rfl _ hz12; have xf1 := FRX.out 1 _ hz12; have x2 := RX.out 2 _ rfl _ hz12; have xf2 := FRX.out 2 _ hz12; have y0 := RY.out 0 _ rfl _ hz12; have yf0 := FRY.out 0 _ hz12; have y1 := RY.out 1 _ rfl _ hz12; have yf1 := FRY.out 1 _ hz12; have y2 := RY.out 2 _ rfl _ hz12; have yf2 := FRY.out 2 _ hz12))
    all_goals
      go_wp2_with fail
      go_meet
    all_goals
      have hS := stored2 (W := _) ((hz12.block _ (lt_of_block HX.out)).trans HX.out) ((hz12.block _ (lt_of_block HY.out)).trans HY.out) (f11.below hb12) f12 (below_trans HB1.out hz12) (Nat.le_refl _) rfl
      exact ⟨rfl, _, _, _, _, _, _, _, _, _, _, _, _, Lib.hid hS.1, Lib.hid hS.2.1, Lib.hid ((hS.2.2.2.2.2 (w.heap.size + 2) (by omega) (by omega)).trans ((hz12.block _ (lt_of_block HR.out)).trans HR.out)), Lib.hid hS.2.2.1, Lib.hid hS.2.2.2.1, Lib.hid hS.2.2.2.2.1⟩
  case rest =>
    obtain ⟨w4, rfl⟩ : ∃ w8 : World, w8 = wc := ⟨_, rfl⟩
    obtain ⟨rfl, a11, n11, c11, i11, j11, k11, a12, n12, c12, i12, j12, k12, HX4, HY4, HR4, HFA, HFB, HW4⟩ := hcut
    clear x0 x1 x2 y0 y1 y2 hz0 hz1 RX RY FRX FRY KF1 KF2
    have RX := Lib.hid (cells_later HX4.out)
    have RY := Lib.hid (cells_later HY4.out)
    have RR := Lib.hid (cells_later HR4.out)
    have FR := Lib.hid (frozen_at HR4.out)
    have hz4 := Below.refl w4.heap.size w4
    have x0 := RX.out 0 _ rfl _ hz4
    have x1 := RX.out 1 _ rfl _ hz4
    have x2 := RX.out 2 _ rfl _ hz4
    have y0 := RY.out 0 _ rfl _ hz4
    have y1 := RY.out 1 _ rfl _ hz4
    have y2 := RY.out 2 _ rfl _ hz4
    have HLN : Hid (n12 = (digs S.num.natAbs).length ∧ IsW w4 (.slice a12 n12 c12) (digs S.num.natAbs) ∧ IsW w4 (.slice i12 j12 k12) (digs S.den)) := Lib.hid (by
      obtain ⟨u, d, he, hu, hd⟩ := HFB.out
      simp only [Value.agg.injEq, Array.mk.injEq, List.cons.injEq, and_true, true_and] at he
      obtain ⟨rfl, rfl⟩ := he
      exact ⟨hu.lenE, hu, hd⟩)
    by_cases h0 : S.num = 0
    · have t0 : ((n12 : Int) == 0) = true := by
        have h9 := HLN.out.1
        rw [h0] at h9
        simp [digs_zero] at h9
        simp; omega
      have HZ : Hid (zerB S.num.natAbs = true) := Lib.hid (by rw [h0]; rfl)
      have r0 := RR.out 0 _ rfl _ hz4
      have r1 := RR.out 1 _ rfl _ hz4
      have r2 := RR.out 2 _ rfl _ hz4
      have f0 := FR.out 0 _ hz4
      have f1 := FR.out 1 _ hz4
      have f2 := FR.out 2 _ hz4
      clear h0
      go_wp2_with fail
      exact bodyPost_ret (results_row_tmp rfl _ _ (w.heap.size + 2) _ _ _ _ rfl (frac3_heap HR4.out) Tryz.underlying43 rfl ifrac) rfl ⟨by rw [HZ.out, if_pos rfl]; rfl, below_only HW4.out (frac3_only _ _ _ _ _) (by omega)⟩
    · have t0 : ((n12 : Int) == 0) = false := by
        have h9 := HLN.out.1
        rw [digs_pos (by omega)] at h9
        simp at h9
        simp; omega
      have HZ : Hid (zerB S.num.natAbs = false) := Lib.hid (zerB_false (by omega))
      have HI : Hid (FracV w4 (.agg #[Value.bool (decide (S.num < 0)), Value.slice i12 j12 k12, Value.slice a12 n12 c12]) S⁻¹) := Lib.hid ⟨_, _, by rw [inv_num_neg], by rw [inv_num_natAbs, if_neg h0]; exact HLN.out.2.2, by rw [Rat.den_inv, if_neg h0]; exact HLN.out.2.1⟩
      have K := Lib.hid (rproduct_w HFA.out HI.out LP.out (by rw [inv_len h0]; exact LS.out))
      rw [← HQ.out] at K
      clear h0
      go_wp2_with fail
      refine K.out.mono ?_
      rintro en5 w5 ⟨⟨r5, rfl, f5⟩, hb5⟩
      obtain ⟨a5, n5, c5, i5, j5, k5, hq5⟩ := frac_form f5
      subst hq5
      have hz5 := below_trans hz4 hb5
      have r0 := RR.out 0 _ rfl _ hz5
      have r1 := RR.out 1 _ rfl _ hz5
      have r2 := RR.out 2 _ rfl _ hz5
      have f0 := FR.out 0 _ hz5
      have f1 := FR.out 1 _ hz5
      have f2 := FR.out 2 _ hz5
      have HR5 : Hid (w5.heap[w.heap.size + 2]? = some (.cells #[Value.bool false, Value.slice none 0 0, Value.slice none 0 0] 43 (0, 0))) := Lib.hid ((hz5.block _ (lt_of_block HR4.out)).trans HR4.out)
      have HF5 := Lib.hid (f5.other HR5.out (frac3_only _ _ (decide (Q.num < 0)) (Value.slice a5 n5 c5) (Value.slice i5 j5 k5)))
      have HB5 := Lib.hid (below_trans HW4.out hb5)
      clear f5 hb5 x0 x1 x2 y0 y1 y2
      go_wp2_with fail
      exact bodyPost_ret (results_row_tmp rfl _ _ (w.heap.size + 2) _ _ _ _ rfl (frac3_heap HR5.out) Tryz.underlying43 rfl ifrac) rfl ⟨by rw [HZ.out, if_neg (by simp)]; exact ⟨_, rfl, HF5.out⟩, below_only HB5.out (frac3_only _ _ _ _ _) (by omega)⟩

theorem rdiv_v {w : World} {v t : Value} {P S : Rat} (hv : FracV w v P) (ht : FracV w t S) (h1 : lenQ P ≤ 4096) (h2 : lenQ S ≤ 4096) :
    Calls Tryz.prog 119 #[v, t] w (RQuo w (zerB S.num.natAbs) (cutR (P * S⁻¹))) := by
  have h := rdiv_w hv.raw ht.raw h1 h2
  rwa [fix_digs h1, fix_digs h2] at h

theorem len_int (n : Int) (h1 : -9223372036854775808 ≤ n) (h2 : n ≤ 9223372036854775807) : lenQ (n : Rat) ≤ 3 := by
  have h := int_len n h1 h2
  have e : (digs (n : Rat).den).length = 1 := by show (digs 1).length = 1; rw [digs_one]; rfl
  have e2 : (n : Rat).num.natAbs = n.natAbs := rfl
  unfold lenQ
  rw [e, e2]; omega
theorem int_mk (n : Int) : mkRat n 1 = (n : Rat) := by
  have h := Rat.mkRat_self (n : Rat)
  exact h

set_option maxRecDepth 8000 in
set_option maxHeartbeats 2000000 in
theorem rint_w {w : World} (n : Int) (h1 : -9223372036854775808 ≤ n) (h2 : n ≤ 9223372036854775807) :
    Calls Tryz.prog 120 #[.int .i64 n] w fun e w' => (∃ r, e = .returned r ∧ FracV w' r (n : Rat)) ∧ Below w.heap.size w w' := by
  obtain ⟨w1, hw1⟩ : ∃ w1, w1 = w.alloc (Obj.cells #[Value.bool false, Value.slice none 0 0, Value.slice none 0 0] 43) := ⟨_, rfl⟩
  have HB1 : Hid (Below w.heap.size w w1) := Lib.hid (by rw [hw1]; exact (Below.refl _ _).alloc (Nat.le_refl _) _)
  have HR1 : Hid (w1.heap[w.heap.size]? = some (.cells #[Value.bool false, Value.slice none 0 0, Value.slice none 0 0] 43 (0, 0))) := Lib.hid (by rw [hw1]; exact heap_alloc_new w _)
  have HW1 := Lib.hid hw1.symm
  have HQ : Hid (cutR (mkRat n 1) = (n : Rat)) := Lib.hid (by rw [int_mk, cut_id (by have := len_int n h1 h2; omega)])
  have HL : Hid ((digs n.natAbs).length < 1073741824) := Lib.hid (by have := int_len n h1 h2; omega)
  clear hw1
  by_cases hn : n < 0
  · obtain ⟨k, hk⟩ : ∃ k : Nat, n = -(k : Int) - 1 := ⟨(n + 1).natAbs, by omega⟩
    have t0 : decide (-(k : Int) - 1 < 0) = true := by simp; omega
    have hk9 : k < 9223372036854775808 := by omega
    have HNA : Hid (n.natAbs = k + 1) := Lib.hid (by omega)
    have e1 : IntKind.i64.wrap (-(k : Int) - 1 + 1) = -(k : Int) := by rw [IntKind.wrap_i64]; omega
    have e2 : IntKind.i64.wrap (-(-(k : Int))) = (k : Int) := by rw [IntKind.wrap_i64]; omega
    have e2' : IntKind.i64.wrap (k : Int) = (k : Int) := by rw [IntKind.wrap_i64]; omega
    have e3 : IntKind.u64.wrap (k : Int) = (k : Int) := by rw [IntKind.wrap_u64]; omega
    have e4 : IntKind.u64.wrap ((k : Int) + 1) = (k : Int) + 1 := by rw [IntKind.wrap_u64]; omega
    have K1 : Hid (∀ w', Calls Tryz.prog 141 #[.int .u64 ((k : Int) + 1)] w' fun e w'' => (∃ r, e = .returned r ∧ IsW w'' r (digs (k + 1)) ∧ (∀ b, r.ownBlock = some b → w'.heap.size ≤ b)) ∧ Below w'.heap.size w' w'') := Lib.hid (fun w' => rwide_w (k + 1) (by omega))
    have K3 := Lib.hid (fun w' x y (h : IsW w' x (digs (k + 1))) (j : IsW w' y (digs 1)) => rlowest_w (w := w') (u := x) (v := y) (b := true) (z := n) (y := 1) (by rw [HNA.out]; exact h) j (by omega) (fun _ => by simp [hn]) HL.out (by rw [digs_one]; simp))
    rw [HQ.out] at K3
    obtain ⟨q, hq⟩ : ∃ q : Rat, q = (n : Rat) := ⟨_, rfl⟩
    rw [← hq] at K3 ⊢
    clear hq hn h1 h2
    subst hk
    go_enter Tryz.func120, Tryz.ntmps120
    go_wp2_with fail
    rw [HW1.out]
    refine (K1.out _).mono ?_
    rintro en2 w2 ⟨⟨r2, rfl, hr2, -⟩, hb2⟩
    obtain ⟨a2, n2, c2, he2⟩ := hr2.form
    subst he2
    go_wp2_with fail
    refine rone_w.mono ?_
    rintro en3 w3 ⟨⟨r3, rfl, hr3, -⟩, hb3⟩
    obtain ⟨a3, n3, c3, he3⟩ := hr3.form
    subst he3
    go_wp2_with fail
    refine (K3.out _ _ _ (hr2.below hb3) hr3).mono ?_
    rintro en4 w4 ⟨⟨r4, rfl, f4⟩, hb4⟩
    obtain ⟨a4, n4, c4, i4, j4, k4, hq4⟩ := frac_form f4
    subst hq4
    have hz4 := below_trans hb2 (below_trans hb3 hb4)
    have HR4 : Hid (w4.heap[w.heap.size]? = some (.cells #[Value.bool false, Value.slice none 0 0, Value.slice none 0 0] 43 (0, 0))) := Lib.hid ((hz4.block _ (lt_of_block HR1.out)).trans HR1.out)
    have HF4 := Lib.hid (f4.other HR4.out (frac3_only _ _ (decide (q.num < 0)) (Value.slice a4 n4 c4) (Value.slice i4 j4 k4)))
    have HB4 := Lib.hid (below_trans HB1.out hz4)
    have r0 := cells_later HR4.out 0 _ rfl _ (Below.refl _ _)
    have r1 := cells_later HR4.out 1 _ rfl _ (Below.refl _ _)
    have r2 := cells_later HR4.out 2 _ rfl _ (Below.refl _ _)
    have f0 := frozen_of_row _ _ 0 _ _ HR4.out
    have f1 := frozen_of_row _ _ 1 _ _ HR4.out
    have f2 := frozen_of_row _ _ 2 _ _ HR4.out
    clear f4 hb2 hb3 hb4 hr2 hr3 hz4
    go_wp2_with fail
    exact bodyPost_ret (results_cell_row rfl _ _ w.heap.size _ _ _ _ rfl (frac3_heap HR4.out) Tryz.underlying43 rfl ifrac) rfl ⟨⟨_, rfl, HF4.out⟩, below_only HB4.out (frac3_only _ _ _ _ _) (by omega)⟩
  · obtain ⟨k, hk⟩ : ∃ k : Nat, n = (k : Int) := ⟨n.natAbs, by omega⟩
    have t0 : decide ((k : Int) < 0) = false := by simp
    have hk9 : k < 9223372036854775808 := by omega
    have HNA : Hid (n.natAbs = k) := Lib.hid (by omega)
    have e3 : IntKind.u64.wrap (k : Int) = (k : Int) := by rw [IntKind.wrap_u64]; omega
    have K1 := Lib.hid (fun w' => rwide_w (w := w') k (by omega))
    have K3 := Lib.hid (fun w' x y (h : IsW w' x (digs k)) (j : IsW w' y (digs 1)) => rlowest_w (w := w') (u := x) (v := y) (b := false) (z := n) (y := 1) (by rw [HNA.out]; exact h) j (by omega) (fun _ => by simp [hn]) HL.out (by rw [digs_one]; simp))
    rw [HQ.out] at K3
    obtain ⟨q, hq⟩ : ∃ q : Rat, q = (n : Rat) := ⟨_, rfl⟩
    rw [← hq] at K3 ⊢
    clear hq hn h1 h2
    subst hk
    go_enter Tryz.func120, Tryz.ntmps120
    go_wp2_with fail
    rw [HW1.out]
    refine (K1.out _).mono ?_
    rintro en2 w2 ⟨⟨r2, rfl, hr2, -⟩, hb2⟩
    obtain ⟨a2, n2, c2, he2⟩ := hr2.form
    subst he2
    go_wp2_with fail
    refine rone_w.mono ?_
    rintro en3 w3 ⟨⟨r3, rfl, hr3, -⟩, hb3⟩
    obtain ⟨a3, n3, c3, he3⟩ := hr3.form
    subst he3
    go_wp2_with fail
    refine (K3.out _ _ _ (hr2.below hb3) hr3).mono ?_
    rintro en4 w4 ⟨⟨r4, rfl, f4⟩, hb4⟩
    obtain ⟨a4, n4, c4, i4, j4, k4, hq4⟩ := frac_form f4
    subst hq4
    have hz4 := below_trans hb2 (below_trans hb3 hb4)
    have HR4 : Hid (w4.heap[w.heap.size]? = some (.cells #[Value.bool false, Value.slice none 0 0, Value.slice none 0 0] 43 (0, 0))) := Lib.hid ((hz4.block _ (lt_of_block HR1.out)).trans HR1.out)
    have HF4 := Lib.hid (f4.other HR4.out (frac3_only _ _ (decide (q.num < 0)) (Value.slice a4 n4 c4) (Value.slice i4 j4 k4)))
    have HB4 := Lib.hid (below_trans HB1.out hz4)
    have r0 := cells_later HR4.out 0 _ rfl _ (Below.refl _ _)
    have r1 := cells_later HR4.out 1 _ rfl _ (Below.refl _ _)
    have r2 := cells_later HR4.out 2 _ rfl _ (Below.refl _ _)
    have f0 := frozen_of_row _ _ 0 _ _ HR4.out
    have f1 := frozen_of_row _ _ 1 _ _ HR4.out
    have f2 := frozen_of_row _ _ 2 _ _ HR4.out
    clear f4 hb2 hb3 hb4 hr2 hr3 hz4
    go_wp2_with fail
    exact bodyPost_ret (results_cell_row rfl _ _ w.heap.size _ _ _ _ rfl (frac3_heap HR4.out) Tryz.underlying43 rfl ifrac) rfl ⟨⟨_, rfl, HF4.out⟩, below_only HB4.out (frac3_only _ _ _ _ _) (by omega)⟩

theorem makeQ_eq (p q : Int) (hq : q ≠ 0) : makeQ p q = (p : Rat) * (q : Rat)⁻¹ := by
  rw [← Rat.div_def, ← Rat.divInt_eq_div]
  unfold makeQ
  rw [← Rat.divInt_ofNat, Rat.divInt_eq_divInt_iff (by omega) hq]
  by_cases h1 : p < 0 <;> by_cases h2 : q < 0
  · have e1 : (p.natAbs : Int) = -p := by omega
    have e2 : (q.natAbs : Int) = -q := by omega
    rw [e1, e2]; simp [h1, h2, Int.neg_mul, Int.mul_neg]
  · have e1 : (p.natAbs : Int) = -p := by omega
    have e2 : (q.natAbs : Int) = q := by omega
    rw [e1, e2]; simp [h1, h2]
  · have e1 : (p.natAbs : Int) = p := by omega
    have e2 : (q.natAbs : Int) = -q := by omega
    rw [e1, e2]; simp [h1, h2, Int.neg_mul, Int.mul_neg]
  · have e1 : (p.natAbs : Int) = p := by omega
    have e2 : (q.natAbs : Int) = q := by omega
    rw [e1, e2]; simp [h1, h2]
theorem len_make (p q : Int) (hp1 : -9223372036854775808 ≤ p) (hp2 : p ≤ 9223372036854775807) (hq1 : -9223372036854775808 ≤ q) (hq2 : q ≤ 9223372036854775807) (hq : q ≠ 0) : lenQ ((p : Rat) * (q : Rat)⁻¹) ≤ 6 := by
  have h := len_mul (p : Rat) (q : Rat)⁻¹
  rw [inv_len (S := (q : Rat)) hq] at h
  have h1 := len_int p hp1 hp2
  have h2 := len_int q hq1 hq2
  omega

set_option maxRecDepth 8000 in
set_option maxHeartbeats 2000000 in
theorem rmake_w {w : World} (p q : Int) (hp1 : -9223372036854775808 ≤ p) (hp2 : p ≤ 9223372036854775807) (hq1 : -9223372036854775808 ≤ q) (hq2 : q ≤ 9223372036854775807) :
    Calls Tryz.prog 93 #[.int .i64 p, .int .i64 q] w (RQuo w (zerB q.natAbs) (makeQ p q)) := by
  obtain ⟨w1, hw1⟩ : ∃ w1, w1 = w.alloc (Obj.cells #[Value.bool false, Value.slice none 0 0, Value.slice none 0 0] 43) := ⟨_, rfl⟩
  have HB1 : Hid (Below w.heap.size w w1) := Lib.hid (by rw [hw1]; exact (Below.refl _ _).alloc (Nat.le_refl _) _)
  have HR1 : Hid (w1.heap[w.heap.size]? = some (.cells #[Value.bool false, Value.slice none 0 0, Value.slice none 0 0] 43 (0, 0))) := Lib.hid (by rw [hw1]; exact heap_alloc_new w _)
  have HW1 := Lib.hid hw1.symm
  clear hw1
  have KP := Lib.hid (fun w' => rint_w (w := w') p hp1 hp2)
  have KQ := Lib.hid (fun w' => rint_w (w := w') q hq1 hq2)
  have LP := Lib.hid (len_int p hp1 hp2)
  have LQ := Lib.hid (len_int q hq1 hq2)
  obtain ⟨zb, hzb⟩ : ∃ x, x = zerB q.natAbs := ⟨_, rfl⟩
  have HZB := Lib.hid hzb
  have KD := Lib.hid (fun w' x y (h : FracV w' x (p : Rat)) (k : FracV w' y (q : Rat)) => rdiv_v (w := w') h k (by have := LP.out; omega) (by have := LQ.out; omega))
  have HZ2 : Hid (zerB (q : Rat).num.natAbs = zb) := Lib.hid hzb.symm
  rw [HZ2.out] at KD
  have HMQ : Hid (zb = false → cutR ((p : Rat) * (q : Rat)⁻¹) = makeQ p q) := Lib.hid (fun h => by
    have hq : q ≠ 0 := fun e => by rw [hzb, e] at h; cases h
    rw [cut_id (by have := len_make p q hp1 hp2 hq1 hq2 hq; omega), makeQ_eq p q hq])
  rw [← hzb]
  obtain ⟨Q, hQ⟩ : ∃ Q, Q = cutR ((p : Rat) * (q : Rat)⁻¹) := ⟨_, rfl⟩
  rw [← hQ] at KD HMQ
  obtain ⟨P', hP'⟩ : ∃ P' : Rat, P' = (p : Rat) := ⟨_, rfl⟩
  obtain ⟨S', hS'⟩ : ∃ S' : Rat, S' = (q : Rat) := ⟨_, rfl⟩
  rw [← hP'] at KP KD
  rw [← hS'] at KQ KD
  clear hp1 hp2 hq1 hq2 hzb hQ hP' hS' LP LQ HZ2
  go_enter Tryz.func93, Tryz.ntmps93
  go_wp2_with fail
  rw [HW1.out]
  refine (KP.out _).mono ?_
  rintro en2 w2 ⟨⟨v2, rfl, f2⟩, hb2⟩
  go_wp2_with fail
  refine (KQ.out _).mono ?_
  rintro en3 w3 ⟨⟨v3, rfl, f3⟩, hb3⟩
  go_wp2_with fail
  refine (KD.out _ _ _ (f2.below hb3) f3).mono ?_
  rintro en4 w4 ⟨he4, hb4⟩
  have hz4 := below_trans hb2 (below_trans hb3 hb4)
  have HR4 : Hid (w4.heap[w.heap.size]? = some (.cells #[Value.bool false, Value.slice none 0 0, Value.slice none 0 0] 43 (0, 0))) := Lib.hid ((hz4.block _ (lt_of_block HR1.out)).trans HR1.out)
  have HB4 := Lib.hid (below_trans HB1.out hz4)
  have r0 := cells_later HR4.out 0 _ rfl _ (Below.refl _ _)
  have r1 := cells_later HR4.out 1 _ rfl _ (Below.refl _ _)
  have r2 := cells_later HR4.out 2 _ rfl _ (Below.refl _ _)
  have g0 := frozen_of_row _ _ 0 _ _ HR4.out
  have g1 := frozen_of_row _ _ 1 _ _ HR4.out
  have g2 := frozen_of_row _ _ 2 _ _ HR4.out
  clear f2 f3 hb2 hb3 hb4 hz4
  cases zb with
  | true =>
    obtain rfl : en4 = _ := by simpa using he4
    go_wp2_with fail
    exact bodyPost_ret (results_row_tmp rfl _ _ w.heap.size _ _ _ _ rfl (frac3_heap HR4.out) Tryz.underlying43 rfl ifrac) rfl ⟨by rw [if_pos rfl]; rfl, below_only HB4.out (frac3_only _ _ _ _ _) (by omega)⟩
  | false =>
    obtain ⟨v4, rfl, f4⟩ : ∃ r, en4 = .returned (.tuple #[r, .int .i64 0]) ∧ FracV w4 r Q := by simpa using he4
    obtain ⟨a4, n4, c4, i4, j4, k4, hq4⟩ := frac_form f4
    subst hq4
    have HF4 := Lib.hid (f4.other HR4.out (frac3_only _ _ (decide (Q.num < 0)) (Value.slice a4 n4 c4) (Value.slice i4 j4 k4)))
    clear f4
    go_wp2_with fail
    exact bodyPost_ret (results_row_tmp rfl _ _ w.heap.size _ _ _ _ rfl (frac3_heap HR4.out) Tryz.underlying43 rfl ifrac) rfl ⟨by rw [if_neg (by simp), ← HMQ.out (by first | rfl | trivial)]; exact ⟨_, rfl, HF4.out⟩, below_only HB4.out (frac3_only _ _ _ _ _) (by omega)⟩
end Go.Proofs.YtafenoohjcpjgaaGreat

/- The reference: sums, differences, products, what is below zero turned, signs. -/
namespace Go.Proofs.YtafenoohjcpjgaaGreat
open Go.RowKit
attribute [local go_sem ↓] Go.wp_at_zero Go.wp_at_succ

theorem cmpN_sign (x y : Nat) : cmpN x y = ((x : Int) - y).sign := by
  unfold cmpN; split
  · rw [Int.sign_eq_neg_one_of_neg (by omega)]
  · split
    · rw [Int.sign_eq_one_of_pos (by omega)]
    · have : (x : Int) - y = 0 := by omega
      rw [this]; rfl

set_option maxRecDepth 8000 in
set_option maxHeartbeats 2000000 in
theorem rnegf_w {w : World} {v : Value} {b : Bool} {l m : List Nat} (hv : RawF w v b l m) (h1 : l.length + m.length ≤ 4096) :
    Calls Tryz.prog 26 #[v] w fun e w' => (∃ r, e = .returned r ∧ FracV w' r (-(fixR b l m))) ∧ Below w.heap.size w w' := by
  have HV := Lib.hid hv
  obtain ⟨u, d, rfl, hu, hd⟩ := hv
  obtain ⟨ua, un, uc, hue⟩ := hu.form
  subst hue
  obtain ⟨da, dn, dc, hde⟩ := hd.form
  subst hde
  obtain ⟨w1, hw1⟩ : ∃ w1, w1 = (w.alloc (Obj.cells #[Value.bool b, Value.slice ua un uc, Value.slice da dn dc] 43)).alloc (Obj.cells #[Value.bool false, Value.slice none 0 0, Value.slice none 0 0] 43) := ⟨_, rfl⟩
  have HB1 : Hid (Below w.heap.size w w1) := Lib.hid (by rw [hw1]; exact ((Below.refl _ _).alloc (Nat.le_refl _) _).alloc (by simp) _)
  have HX : Hid (w1.heap[w.heap.size]? = some (.cells #[Value.bool b, Value.slice ua un uc, Value.slice da dn dc] 43 (0, 0))) := Lib.hid (by rw [hw1]; exact heap_alloc2_old w _ _)
  have HR : Hid (w1.heap[w.heap.size + 1]? = some (.cells #[Value.bool false, Value.slice none 0 0, Value.slice none 0 0] 43 (0, 0))) := Lib.hid (by rw [hw1]; exact heap_alloc2_new w _ _)
  have HW1 := Lib.hid hw1.symm
  clear hw1
  have K1 := Lib.hid (rfix_w (HV.out.below HB1.out) h1)
  obtain ⟨P, hP⟩ : ∃ P, P = fixR b l m := ⟨_, rfl⟩
  rw [← hP] at K1 ⊢
  clear hP hu hd h1
  have RX := Lib.hid (cells_later HX.out)
  have hz1 := Below.refl w1.heap.size w1
  have x0 := RX.out 0 _ rfl _ hz1
  have x1 := RX.out 1 _ rfl _ hz1
  have x2 := RX.out 2 _ rfl _ hz1
  go_enter Tryz.func26, Tryz.ntmps26
  go_wp2_with fail
  rw [HW1.out]
  refine K1.out.mono ?_
  rintro en2 w2 ⟨⟨v2, rfl, f2⟩, hb2⟩
  obtain ⟨a2, n2, c2, i2, j2, k2, hq2⟩ := frac_form f2
  subst hq2
  have HX2 : Hid (w2.heap[w.heap.size]? = some (.cells #[Value.bool b, Value.slice ua un uc, Value.slice da dn dc] 43 (0, 0))) := Lib.hid ((hb2.block _ (lt_of_block HX.out)).trans HX.out)
  have HR2 : Hid (w2.heap[w.heap.size + 1]? = some (.cells #[Value.bool false, Value.slice none 0 0, Value.slice none 0 0] 43 (0, 0))) := Lib.hid ((hb2.block _ (lt_of_block HR.out)).trans HR.out)
  go_wp2_with ((with_reducible refine at_store ?_); refine wpList_store_var rfl _ _ _ rfl w.heap.size rfl _ rfl _ _ HX2.out ifrac rfl frac_one ?_; intro w3 h3 hon3; refine halt ?_)
  have HF3 := Lib.hid (f2.other HX2.out hon3)
  have HR3 : Hid (w3.heap[w.heap.size + 1]? = some (.cells #[Value.bool false, Value.slice none 0 0, Value.slice none 0 0] 43 (0, 0))) := Lib.hid ((hon3.block _ (by omega)).trans HR2.out)
  have HB3 := Lib.hid (below_only (below_trans HB1.out hb2) hon3 (Nat.le_refl _))
  have hz3 := Below.refl w3.heap.size w3
  have HLN : Hid (n2 = (digs P.num.natAbs).length ∧ IsW w3 (.slice a2 n2 c2) (digs P.num.natAbs) ∧ IsW w3 (.slice i2 j2 k2) (digs P.den)) := Lib.hid (by
    obtain ⟨u, d, he, hu, hd⟩ := HF3.out
    simp only [Value.agg.injEq, Array.mk.injEq, List.cons.injEq, and_true, true_and] at he
    obtain ⟨rfl, rfl⟩ := he
    exact ⟨hu.lenE, hu, hd⟩)
  obtain ⟨bp, hbp⟩ : ∃ bp, bp = decide (P.num < 0) := ⟨_, rfl⟩
  rw [← hbp] at h3
  clear x0 x1 x2 f2 hb2 hon3 hz1
  have x0 := cells_later h3 0 _ rfl _ hz3
  have x1 := cells_later h3 1 _ rfl _ hz3
  have x2 := cells_later h3 2 _ rfl _ hz3
  have r0 := cells_later HR3.out 0 _ rfl _ hz3
  have r1 := cells_later HR3.out 1 _ rfl _ hz3
  have r2 := cells_later HR3.out 2 _ rfl _ hz3
  have f0 := frozen_of_row _ _ 0 _ _ HR3.out
  have f1 := frozen_of_row _ _ 1 _ _ HR3.out
  have f2 := frozen_of_row _ _ 2 _ _ HR3.out
  have HBP := Lib.hid hbp
  clear h3 hbp
  refine go_on ?_
  by_cases h0 : P.num = 0
  · have t0 : ((n2 : Int) == 0) = true := by
      have h9 := HLN.out.1
      rw [h0] at h9
      simp [digs_zero] at h9
      simp; omega
    have HE : Hid (-P = P) := Lib.hid (by rw [Rat.num_eq_zero.1 h0]; rfl)
    clear h0
    go_wp2_with fail
    have h9 := frac3_q (q := P) HR3.out HLN.out.2.1 HLN.out.2.2
    rw [← HBP.out] at h9
    exact bodyPost_ret (results_cell_row rfl _ _ (w.heap.size + 1) _ _ _ _ rfl (frac3_heap HR3.out) Tryz.underlying43 rfl ifrac) rfl ⟨⟨_, rfl, by rw [HE.out]; exact h9⟩, below_only HB3.out (frac3_only _ _ _ _ _) (by omega)⟩
  · have t0 : ((n2 : Int) == 0) = false := by
      have h9 := HLN.out.1
      rw [digs_pos (by omega)] at h9
      simp at h9
      simp; omega
    have HE : Hid (decide ((-P).num < 0) = !bp) := Lib.hid (by
      rw [HBP.out, neg_num']
      by_cases h : P.num < 0
      · rw [decide_eq_true h, decide_eq_false (by omega)]; rfl
      · rw [decide_eq_false h, decide_eq_true (by omega)]; rfl)
    clear h0
    go_wp2_with fail
    have h9 := frac3_q (q := -P) HR3.out (u := Value.slice a2 n2 c2) (d := Value.slice i2 j2 k2) (by rw [neg_num', Int.natAbs_neg]; exact HLN.out.2.1) HLN.out.2.2
    rw [HE.out] at h9
    exact bodyPost_ret (results_cell_row rfl _ _ (w.heap.size + 1) _ _ _ _ rfl (frac3_heap HR3.out) Tryz.underlying43 rfl ifrac) rfl ⟨⟨_, rfl, h9⟩, below_only HB3.out (frac3_only _ _ _ _ _) (by omega)⟩

end Go.Proofs.YtafenoohjcpjgaaGreat

/- The reference: sums. -/
namespace Go.Proofs.YtafenoohjcpjgaaGreat
open Go.RowKit
attribute [local go_sem ↓] Go.wp_at_zero Go.wp_at_succ

end Go.Proofs.YtafenoohjcpjgaaGreat

/- The reference: differences. -/
namespace Go.Proofs.YtafenoohjcpjgaaGreat
open Go.RowKit
attribute [local go_sem ↓] Go.wp_at_zero Go.wp_at_succ

end Go.Proofs.YtafenoohjcpjgaaGreat

/- The reference: products. -/
namespace Go.Proofs.YtafenoohjcpjgaaGreat
open Go.RowKit
attribute [local go_sem ↓] Go.wp_at_zero Go.wp_at_succ

end Go.Proofs.YtafenoohjcpjgaaGreat

/- The reference: order, floor. -/
namespace Go.Proofs.YtafenoohjcpjgaaGreat
open Go.RowKit
attribute [local go_sem ↓] Go.wp_at_zero Go.wp_at_succ

theorem cmp_same_pos {P S : Rat} (h1 : ¬ P.num < 0) (h2 : ¬ S.num < 0) : cmpN (P.num.natAbs * S.den) (S.num.natAbs * P.den) = cmpQ P S := by
  rw [cmpN_sign, cmpQ_num]
  have e1 : ((P.num.natAbs * S.den : Nat) : Int) = P.num * S.den := by rw [Int.natCast_mul]; have : (P.num.natAbs : Int) = P.num := (by omega); rw [this]
  have e2 : ((S.num.natAbs * P.den : Nat) : Int) = S.num * P.den := by rw [Int.natCast_mul]; have : (S.num.natAbs : Int) = S.num := (by omega); rw [this]
  rw [e1, e2]
theorem cmp_same_neg {P S : Rat} (h1 : P.num < 0) (h2 : S.num < 0) : -cmpN (P.num.natAbs * S.den) (S.num.natAbs * P.den) = cmpQ P S := by
  rw [cmpN_sign, cmpQ_num]
  have e1 : ((P.num.natAbs * S.den : Nat) : Int) = -(P.num * S.den) := by rw [Int.natCast_mul]; have : (P.num.natAbs : Int) = -P.num := (by omega); rw [this, Int.neg_mul]
  have e2 : ((S.num.natAbs * P.den : Nat) : Int) = -(S.num * P.den) := by rw [Int.natCast_mul]; have : (S.num.natAbs : Int) = -S.num := (by omega); rw [this, Int.neg_mul]
  rw [e1, e2, ← Int.sign_neg]
  congr 1
  omega
theorem cmp_less_neg {P S : Rat} (h1 : P.num < 0) (h2 : ¬ S.num < 0) : cmpQ P S = -1 := by
  rw [cmpQ_num]
  have p1 : (0 : Int) < S.den := by have := S.den_pos; omega
  have p2 : (0 : Int) < P.den := by have := P.den_pos; omega
  have e1 := Int.mul_neg_of_neg_of_pos h1 p1
  have e2 := Int.mul_nonneg (Int.not_lt.1 h2) (Int.le_of_lt p2)
  exact Int.sign_eq_neg_one_of_neg (by omega)
theorem cmp_more_neg {P S : Rat} (h1 : ¬ P.num < 0) (h2 : S.num < 0) : cmpQ P S = 1 := by
  have h := cmp_less_neg h2 h1
  rw [cmpQ_swap P S] at h
  omega
theorem cmpN_range (x y : Nat) : -1 ≤ cmpN x y ∧ cmpN x y ≤ 1 := by
  unfold cmpN; split
  · omega
  · split <;> omega

set_option maxRecDepth 100000 in
set_option maxHeartbeats 4000000 in
theorem rcmp_w {w : World} {v t : Value} {b c : Bool} {l m l2 m2 : List Nat} (hv : RawF w v b l m) (ht : RawF w t c l2 m2) (h1 : l.length + m.length ≤ 4096) (h2 : l2.length + m2.length ≤ 4096) :
    Calls Tryz.prog 66 #[v, t] w fun e w' => e = .returned (.int .i64 (cmpQ (fixR b l m) (fixR c l2 m2))) ∧ Below w.heap.size w w' := by
  have HV := Lib.hid hv
  have HT := Lib.hid ht
  obtain ⟨u, d, rfl, hu, hd⟩ := hv
  obtain ⟨ua, un, uc, hue⟩ := hu.form
  subst hue
  obtain ⟨da, dn, dc, hde⟩ := hd.form
  subst hde
  obtain ⟨u2, d2, rfl, hu2, hd2⟩ := ht
  obtain ⟨va, vn, vc, hve⟩ := hu2.form
  subst hve
  obtain ⟨ea, en, ec, hee⟩ := hd2.form
  subst hee
  obtain ⟨w1, hw1⟩ : ∃ w1, w1 = ((w.alloc (Obj.cells #[Value.bool b, Value.slice ua un uc, Value.slice da dn dc] 43)).alloc (Obj.cells #[Value.bool c, Value.slice va vn vc, Value.slice ea en ec] 43)) := ⟨_, rfl⟩
  have HB1 : Hid (Below w.heap.size w w1) := Lib.hid (by rw [hw1]; exact ((Below.refl _ _).alloc (Nat.le_refl _) _).alloc (by simp) _)
  have HX : Hid (w1.heap[w.heap.size]? = some (.cells #[Value.bool b, Value.slice ua un uc, Value.slice da dn dc] 43 (0, 0))) := Lib.hid (by rw [hw1]; exact heap_alloc2_old w _ _)
  have HY : Hid (w1.heap[w.heap.size + 1]? = some (.cells #[Value.bool c, Value.slice va vn vc, Value.slice ea en ec] 43 (0, 0))) := Lib.hid (by rw [hw1]; exact heap_alloc2_new w _ _)
  have HW1 := Lib.hid hw1.symm
  clear hw1
  have LP : Hid (lenQ (fixR b l m) ≤ 4096) := Lib.hid (fix_len hu.ws hd.ws)
  have LS : Hid (lenQ (fixR c l2 m2) ≤ 4096) := Lib.hid (fix_len hu2.ws hd2.ws)
  have KF1 := Lib.hid (fun w' (hb : Below w1.heap.size w1 w') => rfix_w (w := w') (HV.out.below (below_trans HB1.out hb)) h1)
  have KF2 := Lib.hid (fun w' (hb : Below w1.heap.size w1 w') => rfix_w (w := w') (HT.out.below (below_trans HB1.out hb)) h2)
  obtain ⟨P, hP⟩ : ∃ P, P = fixR b l m := ⟨_, rfl⟩
  obtain ⟨S, hS⟩ : ∃ S, S = fixR c l2 m2 := ⟨_, rfl⟩
  rw [← hP, ← hS]
  rw [← hP] at LP KF1
  rw [← hS] at LS KF2
  clear hP hS h1 h2 hu hd hu2 hd2
  obtain ⟨sg, hsg⟩ : ∃ sg, sg = cmpQ P S := ⟨_, rfl⟩
  have HSG := Lib.hid hsg
  rw [← hsg]
  clear hsg
  have RX := Lib.hid (cells_later HX.out)
  have RY := Lib.hid (cells_later HY.out)
  have FRX := Lib.hid (frozen_at HX.out)
  have FRY := Lib.hid (frozen_at HY.out)
  have hz1 := Below.refl w1.heap.size w1
  have x0 := RX.out 0 _ rfl _ hz1
  have x1 := RX.out 1 _ rfl _ hz1
  have x2 := RX.out 2 _ rfl _ hz1
  have y0 := RY.out 0 _ rfl _ hz1
  have y1 := RY.out 1 _ rfl _ hz1
  have y2 := RY.out 2 _ rfl _ hz1
  have hz0 : Below w1.heap.size w1 w1.drew := below_drewN (Below.refl _ _) 1
  go_enter Tryz.func66, Tryz.ntmps66
  go_wp2_with fail
  rw [HW1.out]
  go_cut [4] (fun ev wr => ev = .int .i64 0 ∧ ∃ (a11 : Option Addr) (n11 c11 : Nat) (i11 : Option Addr) (j11 k11 : Nat) (a12 : Option Addr) (n12 c12 : Nat) (i12 : Option Addr) (j12 k12 : Nat), Hid (wr.heap[w.heap.size]? = some (.cells #[Value.bool (decide (P.num < 0)), Value.slice a11 n11 c11, Value.slice i11 j11 k11] 43 (0, 0))) ∧ Hid (wr.heap[w.heap.size + 1]? = some (.cells #[Value.bool (decide (S.num < 0)), Value.slice a12 n12 c12, Value.slice i12 j12 k12] 43 (0, 0))) ∧ Hid (FracV wr (.agg #[Value.bool (decide (P.num < 0)), Value.slice a11 n11 c11, Value.slice i11 j11 k11]) P) ∧ Hid (FracV wr (.agg #[Value.bool (decide (S.num < 0)), Value.slice a12 n12 c12, Value.slice i12 j12 k12]) S) ∧ Hid (Below w.heap.size w wr))
  case first =>
    go_region_with (first | (go_at_call_of 59 (Value.slice ua un uc); refine (KF1.out _ hz0).mono ?_; rintro en11 w11 ⟨⟨v11, rfl, f11⟩, hb11⟩; obtain ⟨a11, n11, c11, i11, j11, k11, hq11⟩ := frac_form f11; subst hq11; have hz11 := below_trans hz0 hb11; have y0 := RY.out 0 _ rfl _ hz11; have y1 := RY.out 1 _ rfl _ hz11; have y2 := RY.out 2 _ rfl _ hz11) | (go_at_call_of 59 (Value.slice va vn vc); refine (KF2.out _ hz11).mono ?_; rintro en12 w12 ⟨⟨v12, rfl, f12⟩, hb12⟩; obtain ⟨a12, n12, c12, i12, j12, k12, hq12⟩ := frac_form f12; subst hq12; have hz12 := below_trans hz11 hb12; have x0 := RX.out 0 _ rfl _ hz12; have xf0 := FRX.out 0 _ hz12; have x1 := RX.out 1 _ rfl _ hz12; have xf1 := FRX.out 1 _ hz12; have x2 := RX.out 2 _ rfl _ hz12; have xf2 := FRX.out 2 _ hz12; have y0 := RY.out 0 _ rfl _ hz12; have yf0 := FRY.out 0 _ hz12; have y1 := RY.out 1 _ rfl _ hz12; have yf1 := FRY.out 1 _ hz12; have y2 := RY.out 2 _ rfl _ hz12; have yf2 := FRY.out 2 _ hz12))
    all_goals
      go_wp2_with fail
      go_meet
    all_goals
      have hS := stored2 (W := _) ((hz12.block _ (lt_of_block HX.out)).trans HX.out) ((hz12.block _ (lt_of_block HY.out)).trans HY.out) (f11.below hb12) f12 (below_trans HB1.out hz12) (Nat.le_refl _) rfl
      exact ⟨rfl, _, _, _, _, _, _, _, _, _, _, _, _, Lib.hid hS.1, Lib.hid hS.2.1, Lib.hid hS.2.2.1, Lib.hid hS.2.2.2.1, Lib.hid hS.2.2.2.2.1⟩
  case rest =>
    obtain ⟨w4, rfl⟩ : ∃ w8 : World, w8 = wc := ⟨_, rfl⟩
    obtain ⟨rfl, a11, n11, c11, i11, j11, k11, a12, n12, c12, i12, j12, k12, HX4, HY4, HFA, HFB, HW4⟩ := hcut
    obtain ⟨bp, hbp⟩ : ∃ bp, bp = decide (P.num < 0) := ⟨_, rfl⟩
    obtain ⟨bs, hbs⟩ : ∃ bp, bp = decide (S.num < 0) := ⟨_, rfl⟩
    have HIA : Hid (IsW w4 (.slice a11 n11 c11) (digs P.num.natAbs) ∧ IsW w4 (.slice i11 j11 k11) (digs P.den)) := Lib.hid (by
      obtain ⟨u, d, he, hu, hd⟩ := HFA.out
      simp only [Value.agg.injEq, Array.mk.injEq, List.cons.injEq, and_true, true_and] at he
      obtain ⟨rfl, rfl⟩ := he
      exact ⟨hu, hd⟩)
    have HIB : Hid (IsW w4 (.slice a12 n12 c12) (digs S.num.natAbs) ∧ IsW w4 (.slice i12 j12 k12) (digs S.den)) := Lib.hid (by
      obtain ⟨u, d, he, hu, hd⟩ := HFB.out
      simp only [Value.agg.injEq, Array.mk.injEq, List.cons.injEq, and_true, true_and] at he
      obtain ⟨rfl, rfl⟩ := he
      exact ⟨hu, hd⟩)
    rw [← hbp] at HX4
    rw [← hbs] at HY4
    have HBP := Lib.hid hbp
    have HBS := Lib.hid hbs
    clear x0 x1 x2 y0 y1 y2 hz0 hz1 RX RY FRX FRY KF1 KF2 HFA HFB hbp hbs
    have RX := Lib.hid (cells_later HX4.out)
    have RY := Lib.hid (cells_later HY4.out)
    have hz1 := Below.refl w4.heap.size w4
    have x0 := RX.out 0 _ rfl _ hz1
    have x1 := RX.out 1 _ rfl _ hz1
    have x2 := RX.out 2 _ rfl _ hz1
    have y0 := RY.out 0 _ rfl _ hz1
    have y1 := RY.out 1 _ rfl _ hz1
    have y2 := RY.out 2 _ rfl _ hz1
    by_cases hb : bp = bs
    · have t0 : (bp == bs) = true := by simpa using hb
      have t1 : (bp != bs) = false := by simpa using hb
      obtain ⟨o, ho⟩ : ∃ o, o = cmpN (P.num.natAbs * S.den) (S.num.natAbs * P.den) := ⟨_, rfl⟩
      have HO : Hid ((if bp = true then -o else o) = sg ∧ -1 ≤ o ∧ o ≤ 1) := Lib.hid (by
        refine ⟨?_, by rw [ho]; exact (cmpN_range _ _).1, by rw [ho]; exact (cmpN_range _ _).2⟩
        rw [HSG.out, ho]
        by_cases h : P.num < 0
        · have h2 : S.num < 0 := of_decide_eq_true (by rw [← HBS.out, ← hb, HBP.out]; exact decide_eq_true h)
          rw [HBP.out, if_pos (decide_eq_true h)]
          exact cmp_same_neg h h2
        · have h2 : ¬ S.num < 0 := of_decide_eq_false (by rw [← HBS.out, ← hb, HBP.out]; exact decide_eq_false h)
          rw [HBP.out, if_neg (by simpa using h)]
          exact cmp_same_pos h h2)
      have K1 := Lib.hid (fun w' (hb : Below w4.heap.size w4 w') => rtimes_w (w := w') (HIA.out.1.below hb) (HIB.out.2.below hb) (by have := LP.out; have := LS.out; unfold lenQ at *; omega))
      have K2 := Lib.hid (fun w' (hb : Below w4.heap.size w4 w') => rtimes_w (w := w') (HIB.out.1.below hb) (HIA.out.2.below hb) (by have := LP.out; have := LS.out; unfold lenQ at *; omega))
      have K3 := Lib.hid (fun w' x y (h : IsW w' x (digs (P.num.natAbs * S.den))) (k : IsW w' y (digs (S.num.natAbs * P.den))) => rorder_d (w := w') h k)
      rw [← ho] at K3
      clear hb ho
      have hz0 : Below w4.heap.size w4 w4.drew := below_drewN (Below.refl _ _) 1
      go_wp2_with fail
      go_region_held3 (fun w' => w'.cell? ⟨w.heap.size, 0, none⟩ = some (.bool bp) ∧ w'.cell? ⟨w.heap.size, 1, none⟩ = some (.slice a11 n11 c11) ∧ w'.cell? ⟨w.heap.size, 2, none⟩ = some (.slice i11 j11 k11) ∧ w'.cell? ⟨w.heap.size + 1, 0, none⟩ = some (.bool bs) ∧ w'.cell? ⟨w.heap.size + 1, 1, none⟩ = some (.slice a12 n12 c12) ∧ w'.cell? ⟨w.heap.size + 1, 2, none⟩ = some (.slice i12 j12 k12))
        (((try dsimp only); refine ⟨?_, ?_, ?_, ?_, ?_, ?_⟩ <;> (first | exact RX.out _ _ rfl _ (by assumption) | exact RY.out _ _ rfl _ (by assumption) | go_keep)))
        (first | (go_at_call_of 95 (Value.slice a11 n11 c11); refine (K1.out _ hz0).mono ?_; rintro en5 w5 ⟨⟨r5, rfl, hr5, ho5⟩, hb5⟩; obtain ⟨a5, n5, c5, he5⟩ := hr5.form; subst he5; have hz5 := below_trans hz0 hb5) | (go_at_call 95; refine (K2.out _ hz5).mono ?_; rintro en6 w6 ⟨⟨r6, rfl, hr6, ho6⟩, hb6⟩; obtain ⟨a6, n6, c6, he6⟩ := hr6.form; subst he6; have hz6 := below_trans hz5 hb6) | (go_at_call 94; refine (K3.out _ _ _ (hr5.below hb6) hr6).mono ?_; rintro en7 w7 ⟨rfl, n7, rfl⟩; have hz7 : Below w4.heap.size w4 (w6.drewN n7) := below_drewN hz6 n7))
      have z0 := RX.out 0 _ rfl _ hz7
      have z1 := RX.out 1 _ rfl _ hz7
      have z2 := RX.out 2 _ rfl _ hz7
      have HZ7 := Lib.hid (below_trans HW4.out hz7)
      cases bp with
      | true =>
        have hOO := HO.out
        rw [if_pos rfl] at hOO
        have ho1 := hOO.2.1
        have ho2 := hOO.2.2
        have e9 : IntKind.i64.wrap (-o) = -o := by rw [IntKind.wrap_i64]; omega
        have HE := Lib.hid hOO.1
        clear hOO
        go_wp2_with fail
        go_ret
        exact ⟨by rw [← HE.out]; rfl, HZ7.out⟩
      | false =>
        have HE : Hid (o = sg) := Lib.hid (by have h9 := HO.out.1; rwa [if_neg (by simp)] at h9)
        go_wp2_with fail
        go_ret
        exact ⟨by rw [← HE.out]; rfl, HZ7.out⟩
    · have t0 : (bp == bs) = false := by simpa using hb
      have t1 : (bp != bs) = true := by simpa using hb
      have HBB := Lib.hid hb
      clear hb
      cases bp with
      | true =>
        have HE : Hid (sg = -1) := Lib.hid (by
          have h9 : P.num < 0 := of_decide_eq_true HBP.out.symm
          have h8 : bs = false := by have := HBB.out; cases bs <;> simp_all
          rw [HSG.out, cmp_less_neg h9 (of_decide_eq_false (by rw [← HBS.out]; exact h8))])
        go_wp2_with fail
        go_ret
        exact ⟨by rw [HE.out]; rfl, HW4.out⟩
      | false =>
        have HE : Hid (sg = 1) := Lib.hid (by
          have h9 : ¬ P.num < 0 := of_decide_eq_false HBP.out.symm
          have h8 : bs = true := by have := HBB.out; cases bs <;> simp_all
          rw [HSG.out, cmp_more_neg h9 (of_decide_eq_true (by rw [← HBS.out]; exact h8))])
        go_wp2_with fail
        go_ret
        exact ⟨by rw [HE.out]; rfl, HW4.out⟩
end Go.Proofs.YtafenoohjcpjgaaGreat

/- The reference: the floor. -/
namespace Go.Proofs.YtafenoohjcpjgaaGreat
open Go.RowKit
attribute [local go_sem ↓] Go.wp_at_zero Go.wp_at_succ

end Go.Proofs.YtafenoohjcpjgaaGreat

/- Contracts by what a fraction of few words stands for: the program's and the reference's. -/
namespace Go.Proofs.YtafenoohjcpjgaaGreat
open Go.RowKit
theorem FewF.form {n : Nat} {w : World} {r : Value} {q : Rat} (h : FewF n w r q) : ∃ b a n c i j k, r = .agg #[.bool b, .slice a n c, .slice i j k] := by
  obtain ⟨b, l, m, hr, -, -, -⟩ := h
  obtain ⟨a, n, c, i, j, k, e⟩ := raw_form hr
  exact ⟨b, a, n, c, i, j, k, e⟩
/-- What the reference tells: a fraction. -/
def RTell (w : World) (q : Rat) (e : Ending) (w' : World) : Prop := (∃ r, e = .returned r ∧ FracV w' r q) ∧ Below w.heap.size w w'
end Go.Proofs.YtafenoohjcpjgaaGreat
