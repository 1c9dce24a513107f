import Derived.Test.YtkkbmlkpgknhgaaGreatZ10
import Derived.Deep.CutBlock
import Derived.Deep.DeepCutAuto
import Derived.Deep.DrawnRows
set_option maxRecDepth 100000
set_option maxHeartbeats 16000000
namespace Go.Proofs.YtkkbmlkpgknhgaaGreat
open Go.RowKit
attribute [local go_sem ↓] Go.wp_at_zero Go.wp_at_succ
variable {P S q : Rat} {a i : Option Addr} {b c : Bool} {j k n x y : Nat} {l l2 m m2 : List Nat} {t u v : Value} {w : World} {z : Int}
theorem IsW.lenE {c : Nat} (h : IsW w (.slice a n c) l) : n = l.length := by
 obtain ⟨a', n', c', he, hn⟩ := h.form_len
 simp only [Value.slice.injEq] at he
 obtain ⟨-, rfl, -⟩ := he
 exact hn
theorem z4w {c : Nat} : ∀ (x y : Nat), (#[Value.bool b, Value.slice a n c, Value.slice i j k] : Array Value)[x]? ≠ some (U y) := by
 intro x y h
 match x, h with
 | 0, h => simp [U] at h
 | 1, h => simp [U] at h
 | 2, h => simp [U] at h
 | (x + 3), h => simp at h
theorem j3q.other {w' : World} {B : Nat} {t : TypeId} {fr : Nat × Nat} {c : Nat} (h : j3q w v q) (hB : w.heap[B]? = some (.cells #[.bool b, .slice a n c, .slice i j k] t fr)) (ho : z9q B w w') : j3q w' v q := by
 obtain ⟨u, d, rfl, hu, hd⟩ := h
 exact ⟨u, d, rfl, hu.other hB z4w ho, hd.other hB z4w ho⟩

theorem y2k (h : IsW w v (q2q y)) (hy : 0 < y) :
  ∃ b off n c d, v = .slice (some ⟨b, off, none⟩) n c ∧ n = (q2q y).length ∧ 0 < n ∧ (∀ w', Below w.heap.size w w' → w'.cell? ⟨b, off, none⟩ = some (.int .u32 (d : Nat))) ∧ ((1 < n ∧ k7q y = false) ∨ (n = 1 ∧ d ≠ 1 ∧ k7q y = false) ∨ (n = 1 ∧ d = 1 ∧ k7q y = true)) := by
 obtain ⟨a, n, c, rfl, hn, hc⟩ := q2y h
 have h0 : 0 < n := by rw [hn, k1q (by omega)]; simp
 obtain ⟨b, off, rfl, hd⟩ := hc h0
 refine ⟨b, off, n, c, nth (q2q y) 0, rfl, hn, h0, fun w' hb => hd 0 h0 w' hb, ?_⟩
 by_cases h1 : n = 1
 ·
  have e := j1h (m := q2q y) (by omega)
  rw [j6q] at e
  rw [← e]
  by_cases hy1 : y = 1
  ·
   exact Or.inr (Or.inr ⟨h1, hy1, by simp [k7q, hy1]⟩)
  ·
   exact Or.inr (Or.inl ⟨h1, hy1, by simp [k7q, hy1]⟩)
 ·
  refine Or.inl ⟨by omega, ?_⟩
  have : y ≠ 1 := fun e => by rw [e, a1q] at hn; simp at hn; omega
  simp [k7q, this]

theorem y1z (hy : y ≠ 0) :
  (mkRat z y).num.natAbs = z.natAbs / Nat.gcd z.natAbs y ∧ (mkRat z y).den = y / Nat.gcd z.natAbs y ∧ decide ((mkRat z y).num < 0) = decide (z < 0) := by
 have hg : 0 < Nat.gcd z.natAbs y := Nat.gcd_pos_of_pos_right _ (by omega)
 have hz := q2w (z := z) hy
 refine ⟨?_, q1w hy, ?_⟩
 ·
  have h2 := congrArg Int.natAbs hz
  rw [Int.natAbs_mul, Int.natAbs_natCast] at h2
  exact (Nat.div_eq_of_eq_mul_left hg h2).symm
 ·
  have hgi : (0 : Int) < (Nat.gcd z.natAbs y : Nat) := by omega
  rw [decide_eq_decide]
  constructor
  ·
   intro h
   have h3 := Int.mul_neg_of_neg_of_pos h hgi
   rwa [← hz] at h3
  ·
   intro h
   by_cases hq : (mkRat z y).num < 0
   ·
    exact hq
   ·
    have h3 := Int.mul_nonneg (Int.not_lt.1 hq) (Int.le_of_lt hgi)
    rw [← hz] at h3
    omega
theorem x3w (y : Nat) : k6q (mkRat 0 y) = 0 := by
 rw [Rat.zero_mkRat]; unfold k6q; split <;> rfl

theorem q8k (hu : IsW w u (q2q z.natAbs)) (hv : IsW w v (q2q y)) (hy : 0 < y) (hb : z ≠ 0 → b = decide (z < 0)) (hlz : (q2q z.natAbs).length < 1073741824) (hly : (q2q y).length < 1073741824) :
  Calls Tryz.prog 144 #[.bool b, u, v] w fun e w' => (∃ r, e = .returned r ∧ j3q w' r (k6q (mkRat z y))) ∧ Below w.heap.size w w' := by
 obtain ⟨w1, hw1, HB1, HR1⟩ := al1 w #[.bool false, .slice none 0 0, .slice none 0 0] 43
 have HW1 := hdd hw1.symm
 clear hw1
 have HU := hdd (hu.below HB1.o)
 have HV := hdd (hv.below HB1.o)
 have HLZ := hdd hlz
 have HLY := hdd hly
 obtain ⟨vb, vo, vn, vc, vd, rfl, hvn, hvn0, hvc, hvt⟩ := y2k hv hy
 have HVC := hdd hvc
 have HVT := hdd hvt
 obtain ⟨ua, un, uc, rfl, hun⟩ := hu.form_len
 have HUN := hdd hun
 have hun9 : un < 1073741824 := by omega
 have hvn9 : vn < 1073741824 := by omega
 by_cases hz0 : z = 0
 ·
  have t0 : ((un : Int) == 0) = true := by
   have h9 : (q2q z.natAbs).length = 0 := by rw [hz0]; simp [y7q]
   simp; omega
  have HF : Hi (k6q (mkRat z y) = 0) := hdd (by rw [hz0]; exact x3w y)
  clear hu hv hy hb hlz hly hvn hvc hvt hun hz0
  go_enter Tryz.func144, Tryz.ntmps144
  go_wp2_with fail
  rw [HW1.o]
  refine z0j.mono ?_
  rintro enz wz ⟨⟨rz, rfl, fz⟩, hbz⟩
  obtain ⟨uz, dz, rfl, huz, hdz⟩ := fz
  obtain ⟨az, nz, cz, hez⟩ := huz.form
  subst hez
  obtain ⟨iz, jz, kz, hfz⟩ := hdz.form
  subst hfz
  have HUZ := hdd huz
  have HDZ := hdd hdz
  have HBZ := hdd (q0q HB1.o hbz)
  have HRZ : Hi (wz.heap[w.heap.size]? = some (.cells #[.bool false, .slice none 0 0, .slice none 0 0] 43 (0, 0))) := hdd ((hbz.block _ (lt_of_block HR1.o)).trans HR1.o)
  have r0 := q1q HRZ.o 0 _ rfl _ qb
  have r1 := q1q HRZ.o 1 _ rfl _ qb
  have r2 := q1q HRZ.o 2 _ rfl _ qb
  have f0 := frozen_of_row _ _ 0 _ _ HRZ.o
  have f1 := frozen_of_row _ _ 1 _ _ HRZ.o
  have f2 := frozen_of_row _ _ 2 _ _ HRZ.o
  clear huz hdz hbz
  go_wp2_with fail
  have h9 := c1q (q := 0) HRZ.o HUZ.o HDZ.o
  exact bodyPost_ret (results_cell_row rfl _ _ (w.heap.size) _ _ _ _ rfl (z5q HRZ.o) Tryz.underlying43 rfl v0q) rfl ⟨⟨_, rfl, by rw [HF.o]; exact h9⟩, q4q HBZ.o (q7q _ _ _ _ _) (by omega)⟩
 ·
  have h9 : (q2q z.natAbs).length ≠ 0 := by rw [k1q (by omega)]; simp
  have t0 : ((un : Int) == 0) = false := by simp; omega
  have HZ0 := hdd hz0
  have hy0 : y ≠ 0 := by omega
  obtain ⟨hq1, hq2, hq3⟩ := y1z (z := z) hy0
  rw [← hb hz0] at hq3
  obtain ⟨q, hq⟩ := qx (mkRat z y)
  rw [← hq] at hq1 hq2 hq3 ⊢
  obtain ⟨G, hG⟩ := qx (Nat.gcd z.natAbs y)
  have HG0 : Hi (0 < G) := hdd (by rw [hG]; exact Nat.gcd_pos_of_pos_right _ hy)
  have HCM := hdd (j7k HU.o HV.o HLZ.o HLY.o)
  rw [← hG] at hq1 hq2 HCM
  have HQN := hdd hq1
  have HQD := hdd hq2
  have HQB := hdd hq3
  have HG := hdd hG
  obtain ⟨tb, htb⟩ := qx (!k7q y)
  have HTB := hdd htb
  clear hu hv hy hb hlz hly hvn hvc hvt hun hz0 h9 hy0 hq1 hq2 hq3 hq hG htb
  go_enter Tryz.func144, Tryz.ntmps144
  go_upto_region 3 with fail
  rw [HW1.o]
  go_cut [22] (fun c wr => c = .bool tb ∧ w1 = wr)
  case first =>
   have g0 := HVC.o _ HB1.o
   rcases HVT.o with ⟨h1, h2⟩ | ⟨h1, h2, h3⟩ | ⟨h1, h2, h3⟩
   ·
    have t1 : decide ((1 : Int) < (vn : Int)) = true := by simp; omega
    have HF : Hi (tb = true) := hdd (by rw [HTB.o, h2]; rfl)
    clear h1 h2
    go_wp2_with fail
    go_meet
    exact ⟨by rw [HF.o], rfl⟩
   ·
    have t1 : decide ((1 : Int) < (vn : Int)) = false := by simp; omega
    have t2 : ((vd : Int) == 1) = false := by simp; omega
    have t3 : ((vd : Int) != 1) = true := by simp; omega
    have HF : Hi (tb = true) := hdd (by rw [HTB.o, h3]; rfl)
    clear h1 h2 h3
    go_wp2_with fail
    go_meet
    exact ⟨by rw [HF.o], rfl⟩
   ·
    have t1 : decide ((1 : Int) < (vn : Int)) = false := by simp; omega
    have t2 : ((vd : Int) == 1) = true := by simp; omega
    have t3 : ((vd : Int) != 1) = false := by simp; omega
    have HF : Hi (tb = false) := hdd (by rw [HTB.o, h3]; rfl)
    clear h1 h2 h3
    go_wp2_with fail
    go_meet
    exact ⟨by rw [HF.o], rfl⟩
  case rest =>
   obtain ⟨rfl, rfl⟩ := hcut
   go_upto_if 22 with fail
   go_cut [1, 2] (fun nv ev wr => ∃ (na : Option Addr) (nn nc : Nat) (ea : Option Addr) (en ec : Nat), nv = .slice na nn nc ∧ ev = .slice ea en ec ∧ Hi (IsW wr (.slice na nn nc) (q2q q.num.natAbs)) ∧ Hi (IsW wr (.slice ea en ec) (q2q q.den)) ∧ Hi (Below w1.heap.size w1 wr))
   case first =>
    cases tb with
    | false =>
     have HY1 : Hi (y = 1) := hdd (by have := HTB.o; simpa [k7q] using this)
     have HE : Hi (q.num.natAbs = z.natAbs ∧ q.den = y) := hdd (by rw [HQN.o, HQD.o, HG.o, HY1.o]; simp)
     go_wp2_with fail
     go_meet
     exact ⟨_, _, _, _, _, _, rfl, rfl, hdd (by rw [HE.o.1]; exact HU.o), hdd (by rw [HE.o.2]; exact HV.o), hdd qb⟩
    | true =>
     go_wp2_with fail
     refine HCM.o.mono ?_
     rintro en2 w2 ⟨⟨g2, rfl, hg2⟩, hb2⟩
     have HG2 := hdd hg2
     have HB2 := hdd hb2
     obtain ⟨gb, go9, gn, gc, gd, rfl, hgn, hgn0, hgc, hgt⟩ := y2k hg2 HG0.o
     have HGC := hdd hgc
     have HGT := hdd hgt
     obtain ⟨sb, hsb⟩ := qx (!k7q G)
     have HSB := hdd hsb
     have hgn9 : gn ≤ 1073741824 := by have := hg2.len; omega
     clear hg2 hb2 hgn hgc hgt hsb
     go_upto_region 5 with fail
     go_cut [34] (fun c wr => c = .bool sb ∧ w2 = wr)
     case first =>
      have g0 := HGC.o _ qb
      rcases HGT.o with ⟨h1, h2⟩ | ⟨h1, h2, h3⟩ | ⟨h1, h2, h3⟩
      ·
       have t1 : decide ((1 : Int) < (gn : Int)) = true := by simp; omega
       have HF : Hi (sb = true) := hdd (by rw [HSB.o, h2]; rfl)
       clear h1 h2
       go_wp2_with fail
       go_meet
       exact ⟨by rw [HF.o], rfl⟩
      ·
       have t1 : decide ((1 : Int) < (gn : Int)) = false := by simp; omega
       have t2 : ((gd : Int) == 1) = false := by simp; omega
       have t3 : ((gd : Int) != 1) = true := by simp; omega
       have HF : Hi (sb = true) := hdd (by rw [HSB.o, h3]; rfl)
       clear h1 h2 h3
       go_wp2_with fail
       go_meet
       exact ⟨by rw [HF.o], rfl⟩
      ·
       have t1 : decide ((1 : Int) < (gn : Int)) = false := by simp; omega
       have t2 : ((gd : Int) == 1) = true := by simp; omega
       have t3 : ((gd : Int) != 1) = false := by simp; omega
       have HF : Hi (sb = false) := hdd (by rw [HSB.o, h3]; rfl)
       clear h1 h2 h3
       go_wp2_with fail
       go_meet
       exact ⟨by rw [HF.o], rfl⟩
     case rest =>
      obtain ⟨rfl, rfl⟩ := hcut
      cases sb with
      | false =>
       have HY1 : Hi (G = 1) := hdd (by have := HSB.o; simpa [k7q] using this)
       have HE : Hi (q.num.natAbs = z.natAbs ∧ q.den = y) := hdd (by rw [HQN.o, HQD.o, HY1.o]; simp)
       go_wp2_with fail
       go_meet
       exact ⟨_, _, _, _, _, _, rfl, rfl, hdd (by rw [HE.o.1]; exact HU.o.below HB2.o), hdd (by rw [HE.o.2]; exact HV.o.below HB2.o), hdd HB2.o⟩
      | true =>
       have HP1 := hdd (j4k (HU.o.below HB2.o) HG2.o HG0.o HLZ.o)
       have HP2 := hdd (fun w' (hb : Below w2.heap.size w2 w') => j4k (w := w') ((HV.o.below HB2.o).below hb) (HG2.o.below hb) HG0.o HLY.o)
       go_wp2_with fail
       refine HP1.o.mono ?_
       rintro en3 w3 ⟨⟨q3, r3, rfl, hq3, hr3⟩, hb3⟩
       obtain ⟨a3, n3, c3, he3⟩ := hq3.form
       subst he3
       obtain ⟨i3, j3, k3, hf3⟩ := hr3.form
       subst hf3
       go_wp2_with fail
       refine (HP2.o _ hb3).mono ?_
       rintro en4 w4 ⟨⟨q4, r4, rfl, hq4, hr4⟩, hb4⟩
       obtain ⟨a4, n4, c4, he4⟩ := hq4.form
       subst he4
       obtain ⟨i4, j4, k4, hf4⟩ := hr4.form
       subst hf4
       have HQ3 := hdd (hq3.below hb4)
       have HQ4 := hdd hq4
       have HB4 := hdd (q0q HB2.o (q0q hb3 hb4))
       clear hq3 hr3 hq4 hr4 hb3 hb4 HP1 HP2
       go_wp2_with ((with_reducible refine j9q ?_); refine q6q rfl _ _ _ rfl w4.heap.size rfl _ rfl _ _ (heap_alloc2_old w4 _ _) q6j rfl z0v ?_; intro w6 h6 hon6; refine y0q ?_)
       have hb6 : Below w4.heap.size w4 w6 := q4q (((qb).alloc qm _).alloc (by simp) _) hon6 qm
       have hy6 := (hon6.block (w4.heap.size + 1) (by omega)).trans (heap_alloc2_new w4 _ _)
       have HH6 := hdd h6
       have HB6 := hdd hb6
       have HY6 := hdd hy6
       clear h6 hon6 hb6 hy6
       refine z2q ?_
       go_wp2_with ((with_reducible refine j9q ?_); refine q6q rfl _ _ _ rfl (w4.heap.size + 1) rfl _ rfl _ _ HY6.o q6j rfl z0v ?_; intro w7 h7 hon7; refine y0q ?_)
       have HX7 := hdd ((hon7.block w4.heap.size (by omega)).trans HH6.o)
       have HB7 := hdd (q4q HB6.o hon7 (by omega))
       have s0 := q1q HX7.o 0 _ rfl _ qb
       have s1 := q1q HX7.o 1 _ rfl _ qb
       have s2 := q1q h7 0 _ rfl _ qb
       have s3 := q1q h7 1 _ rfl _ qb
       have HN7 : Hi (IsW w7 (Value.slice a3 n3 c3) (q2q q.num.natAbs)) := hdd (by rw [HQN.o]; exact HQ3.o.below HB7.o)
       have HD7 : Hi (IsW w7 (Value.slice a4 n4 c4) (q2q q.den)) := hdd (by rw [HQD.o]; exact HQ4.o.below HB7.o)
       have HW7 := hdd (q0q HB4.o HB7.o)
       clear h7 hon7
       refine z2q ?_
       go_wp2_with fail
       go_quiet (fail)
       go_wp2_with fail
       go_meet
       exact ⟨_, _, _, _, _, _, rfl, rfl, hdd (HN7.o.drewN _), hdd (HD7.o.drewN _), hdd (q5q HW7.o _)⟩
   case rest =>
    obtain ⟨w8, rfl⟩ : ∃ w8 : World, w8 = wc := ⟨_, rfl⟩
    obtain ⟨na, nn, nc, ea, en, ec, rfl, rfl, HN8, HD8, HB8⟩ := hcut
    have hnn := HN8.o.lenE
    have hen := HD8.o.lenE
    have hnn9 : nn ≤ 1073741824 := by have := HN8.o.len; omega
    have hen9 : en ≤ 1073741824 := by have := HD8.o.len; omega
    have HW8 := hdd (q0q HB1.o HB8.o)
    have HR8 : Hi (w8.heap[w.heap.size]? = some (.cells #[.bool false, .slice none 0 0, .slice none 0 0] 43 (0, 0))) := hdd ((HB8.o.block _ (lt_of_block HR1.o)).trans HR1.o)
    by_cases hlen : j5q q ≤ 4096
    ·
     have HC : Hi (k6q q = q) := hdd (i7q hlen)
     unfold j5q at hlen
     have t1 : decide ((4096 : Int) < (nn : Int) + (en : Int)) = false := by simp; omega
     have r0 := q1q HR8.o 0 _ rfl _ qb
     have r1 := q1q HR8.o 1 _ rfl _ qb
     have r2 := q1q HR8.o 2 _ rfl _ qb
     have f0 := frozen_of_row _ _ 0 _ _ HR8.o
     have f1 := frozen_of_row _ _ 1 _ _ HR8.o
     have f2 := frozen_of_row _ _ 2 _ _ HR8.o
     clear hlen hnn hen
     go_wp2_with fail
     have h9 := c1q (q := q) HR8.o HN8.o HD8.o
     rw [HQB.o] at h9
     exact bodyPost_ret (results_cell_row rfl _ _ w.heap.size _ _ _ _ rfl (z5q HR8.o) Tryz.underlying43 rfl v0q) rfl ⟨⟨_, rfl, by rw [HC.o]; exact h9⟩, q4q HW8.o (q7q _ _ _ _ _) (by omega)⟩
    ·
     have HF : Hi (k6q q = 0) := hdd (by unfold k6q; rw [if_neg hlen])
     unfold j5q at hlen
     have t1 : decide ((4096 : Int) < (nn : Int) + (en : Int)) = true := by simp; omega
     clear hlen hnn hen
     go_wp2_with fail
     refine z0j.mono ?_
     rintro enz wz ⟨⟨rz, rfl, fz⟩, hbz⟩
     obtain ⟨uz, dz, rfl, huz, hdz⟩ := fz
     obtain ⟨az, nz, cz, hez⟩ := huz.form
     subst hez
     obtain ⟨iz, jz, kz, hfz⟩ := hdz.form
     subst hfz
     have HUZ := hdd huz
     have HDZ := hdd hdz
     have HBZ := hdd (q0q HW8.o hbz)
     have HRZ : Hi (wz.heap[w.heap.size]? = some (.cells #[.bool false, .slice none 0 0, .slice none 0 0] 43 (0, 0))) := hdd ((hbz.block _ (lt_of_block HR8.o)).trans HR8.o)
     have r0 := q1q HRZ.o 0 _ rfl _ qb
     have r1 := q1q HRZ.o 1 _ rfl _ qb
     have r2 := q1q HRZ.o 2 _ rfl _ qb
     have f0 := frozen_of_row _ _ 0 _ _ HRZ.o
     have f1 := frozen_of_row _ _ 1 _ _ HRZ.o
     have f2 := frozen_of_row _ _ 2 _ _ HRZ.o
     clear huz hdz hbz
     go_wp2_with fail
     have h9 := c1q (q := 0) HRZ.o HUZ.o HDZ.o
     exact bodyPost_ret (results_cell_row rfl _ _ (w.heap.size) _ _ _ _ rfl (z5q HRZ.o) Tryz.underlying43 rfl v0q) rfl ⟨⟨_, rfl, by rw [HF.o]; exact h9⟩, q4q HBZ.o (q7q _ _ _ _ _) (by omega)⟩

theorem sign_mul {x y : Int} (h : x * y ≠ 0) : (decide (x < 0) != decide (y < 0)) = decide (x * y < 0) := by
 have hx : x ≠ 0 := fun e => h (by rw [e, Int.zero_mul])
 have hy : y ≠ 0 := fun e => h (by rw [e, Int.mul_zero])
 by_cases h1 : x < 0 <;> by_cases h2 : y < 0
 ·
  have h3 := Int.mul_pos_of_neg_of_neg h1 h2
  have h4 : ¬ x * y < 0 := by omega
  simp [h1, h2, h4]
 ·
  have h3 := Int.mul_neg_of_neg_of_pos h1 (show 0 < y by omega)
  simp [h1, h2, h3]
 ·
  have h3 := Int.mul_neg_of_pos_of_neg (show 0 < x by omega) h2
  simp [h1, h2, h3]
 ·
  have h3 := Int.mul_pos (show 0 < x by omega) (show 0 < y by omega)
  have h4 : ¬ x * y < 0 := by omega
  simp [h1, h2, h4]

theorem z6v (hv : j3q w v P) (ht : j3q w t S) (h1 : j5q P ≤ 4096) (h2 : j5q S ≤ 4096) :
  Calls Tryz.prog 138 #[v, t] w fun e w' => (∃ r, e = .returned r ∧ j3q w' r (k6q (P * S))) ∧ Below w.heap.size w w' := by
 obtain ⟨u, d, rfl, hu, hd⟩ := hv
 obtain ⟨ua, un, uc, hue⟩ := hu.form
 subst hue
 obtain ⟨da, dn, dc, hde⟩ := hd.form
 subst hde
 obtain ⟨u2, d2, rfl, hu2, hd2⟩ := ht
 obtain ⟨va, vn, vc, hve⟩ := hu2.form
 subst hve
 obtain ⟨ea, en, ec, hee⟩ := hd2.form
 subst hee
 obtain ⟨b, hb⟩ := qx (decide (P.num < 0))
 obtain ⟨c, hc⟩ := qx (decide (S.num < 0))
 rw [← hb, ← hc]
 obtain ⟨w1, hw1⟩ := qx ((((w.alloc (Obj.cells #[.bool b, .slice ua un uc, .slice da dn dc] 43)).alloc (Obj.cells #[.bool c, .slice va vn vc, .slice ea en ec] 43)).alloc (Obj.cells #[.bool false, .slice none 0 0, .slice none 0 0] 43)))
 have HB1 : Hi (Below w.heap.size w w1) := hdd (by rw [hw1]; exact (((qb).alloc qm _).alloc (by simp) _).alloc (by simp; omega) _)
 have HX : Hi (w1.heap[w.heap.size]? = some (.cells #[.bool b, .slice ua un uc, .slice da dn dc] 43 (0, 0))) := hdd (by rw [hw1]; exact p8q w _ _ _)
 have HY : Hi (w1.heap[w.heap.size + 1]? = some (.cells #[.bool c, .slice va vn vc, .slice ea en ec] 43 (0, 0))) := hdd (by rw [hw1]; exact p9q w _ _ _)
 have HR : Hi (w1.heap[w.heap.size + 2]? = some (.cells #[.bool false, .slice none 0 0, .slice none 0 0] 43 (0, 0))) := hdd (by rw [hw1]; exact h3q w _ _ _)
 have HW1 := hdd hw1.symm
 clear hw1
 have HL1 : Hi ((q2q P.num.natAbs).length + (q2q P.den).length ≤ 4096) := hdd h1
 have HL2 : Hi ((q2q S.num.natAbs).length + (q2q S.den).length ≤ 4096) := hdd h2
 have HBP := hdd hb
 have HCS := hdd hc
 have HU := hdd (hu.below HB1.o)
 have HD := hdd (hd.below HB1.o)
 have HU2 := hdd (hu2.below HB1.o)
 have HD2 := hdd (hd2.below HB1.o)
 obtain ⟨N, hN⟩ := qx (P.num.natAbs * S.num.natAbs)
 obtain ⟨D, hD⟩ := qx (P.den * S.den)
 obtain ⟨Q, hQ⟩ := qx (k6q (P * S))
 have HN := hdd hN
 have HDD := hdd hD
 have HQ := hdd hQ
 rw [← hQ]
 clear hu hd hu2 hd2 hb hc h1 h2 hN hD hQ
 have K1 := hdd (fun w' (hb : Below w1.heap.size w1 w') => a3q (w := w') (HU.o.below hb) (HU2.o.below hb) (by have := HL1.o; have := HL2.o; omega))
 have K2 := hdd (fun w' (hb : Below w1.heap.size w1 w') => a3q (w := w') (HD.o.below hb) (HD2.o.below hb) (by have := HL1.o; have := HL2.o; omega))
 rw [← HN.o] at K1
 rw [← HDD.o] at K2
 have K3 := hdd (fun w' x y (h : IsW w' x (q2q N)) (k : IsW w' y (q2q D)) => q8k (w := w') (u := x) (v := y) (b := b != c) (z := P.num * S.num) (y := D) (by rw [Int.natAbs_mul, ← HN.o]; exact h) k (by rw [HDD.o]; exact Nat.mul_pos (Nat.pos_of_ne_zero P.den_nz) (Nat.pos_of_ne_zero S.den_nz)) (fun h9 => by rw [HBP.o, HCS.o]; exact sign_mul h9) (by rw [Int.natAbs_mul]; have h9 := k2q P.num.natAbs S.num.natAbs; have := HL1.o; have := HL2.o; omega) (by rw [HDD.o]; have h9 := k2q P.den S.den; have := HL1.o; have := HL2.o; omega))
 rw [HDD.o, ← Rat.mul_def', ← HQ.o, ← HDD.o] at K3
 have R0 : Hi (∀ o v, (#[Value.bool false, Value.slice none 0 0, Value.slice none 0 0] : Array Value)[o]? = some v → ∀ w', Below w1.heap.size w1 w' → w'.cell? ⟨w.heap.size + 2, o, none⟩ = some v ∧ w'.frozen? ⟨w.heap.size + 2, o, none⟩ = false) :=
  hdd (fun o v h w' hb => ⟨q1q HR.o o v h w' hb, frozen_of_row _ _ o _ _ ((hb.block _ (lt_of_block HR.o)).trans HR.o)⟩)
 have RX := hdd (q1q HX.o)
 have RY := hdd (q1q HY.o)
 have hz1 := Below.refl w1.heap.size w1
 have x0 := RX.o 0 _ rfl _ hz1
 have x1 := RX.o 1 _ rfl _ hz1
 have x2 := RX.o 2 _ rfl _ hz1
 have y0 := RY.o 0 _ rfl _ hz1
 have y1 := RY.o 1 _ rfl _ hz1
 have y2 := RY.o 2 _ rfl _ hz1
 have hz0 : Below w1.heap.size w1 w1.drew := q5q qb 1
 go_enter Tryz.func138, Tryz.ntmps138
 go_wp2_with fail
 rw [HW1.o]
 go_region_held3 (fun w' => w'.cell? ⟨w.heap.size, 0, none⟩ = some (.bool b) ∧ w'.cell? ⟨w.heap.size, 1, none⟩ = some (.slice ua un uc) ∧ w'.cell? ⟨w.heap.size, 2, none⟩ = some (.slice da dn dc) ∧ w'.cell? ⟨w.heap.size + 1, 0, none⟩ = some (.bool c) ∧ w'.cell? ⟨w.heap.size + 1, 1, none⟩ = some (.slice va vn vc) ∧ w'.cell? ⟨w.heap.size + 1, 2, none⟩ = some (.slice ea en ec))
  (((try dsimp only); refine ⟨?_, ?_, ?_, ?_, ?_, ?_⟩ <;> (first | exact RX.o _ _ rfl _ (by assumption) | exact RY.o _ _ rfl _ (by assumption) | (rw [World.cell?_setCell_far _ _ _ _ (by dsimp only; omega), World.cell?_setCell_far _ _ _ _ (by dsimp only; omega), World.cell?_setCell_far _ _ _ _ (by dsimp only; omega)]; first | exact RX.o _ _ rfl _ (by assumption) | exact RY.o _ _ rfl _ (by assumption)) | go_keep)))
  (first | (go_at_call_of 95 (Value.slice ua un uc); refine (K1.o _ hz0).mono ?_; rintro en4 w4 ⟨⟨r4, rfl, hr4, ho4⟩, hb4⟩; obtain ⟨a4, n4, c4, he4⟩ := hr4.form; subst he4; have hz4 := q0q hz0 hb4) | (go_at_call 95; refine (K2.o _ hz4).mono ?_; rintro en5 w5 ⟨⟨r5, rfl, hr5, ho5⟩, hb5⟩; obtain ⟨a5, n5, c5, he5⟩ := hr5.form; subst he5; have hz5 := q0q hz4 hb5) | (go_at_call 144; refine (K3.o _ _ _ (hr4.below hb5) hr5).mono ?_; rintro en6 w6 ⟨⟨r6, rfl, f6⟩, hb6⟩; obtain ⟨a6, n6, c6, i6, j6, k6, hq6⟩ := q8q f6; subst hq6; have hz6 := q0q hz5 hb6; have r0 := (R0.o 0 _ rfl _ hz6).1; have r1 := (R0.o 1 _ rfl _ hz6).1; have r2 := (R0.o 2 _ rfl _ hz6).1; have f0 := (R0.o 0 _ rfl _ hz6).2; have f1 := (R0.o 1 _ rfl _ hz6).2; have f2 := (R0.o 2 _ rfl _ hz6).2))
 have HR6 : Hi (w6.heap[w.heap.size + 2]? = some (.cells #[.bool false, .slice none 0 0, .slice none 0 0] 43 (0, 0))) := hdd ((hz6.block _ (lt_of_block HR.o)).trans HR.o)
 have HF6 := hdd (f6.other HR6.o (q7q _ _ (decide (Q.num < 0)) (Value.slice a6 n6 c6) (Value.slice i6 j6 k6)))
 have HB6 := hdd (q0q HB1.o hz6)
 clear r0 r1 r2 f0 f1 f2
 have r0 := (R0.o 0 _ rfl _ hz6).1
 have r1 := (R0.o 1 _ rfl _ hz6).1
 have r2 := (R0.o 2 _ rfl _ hz6).1
 have f0 := (R0.o 0 _ rfl _ hz6).2
 have f1 := (R0.o 1 _ rfl _ hz6).2
 have f2 := (R0.o 2 _ rfl _ hz6).2
 go_wp2_with fail
 exact bodyPost_ret (results_cell_row rfl _ _ (w.heap.size + 2) _ _ _ _ rfl (z5q HR6.o) Tryz.underlying43 rfl v0q) rfl ⟨⟨_, rfl, HF6.o⟩, q4q HB6.o (q7q _ _ _ _ _) (by omega)⟩
theorem j3q.raw (h : j3q w v q) : m3q w v (decide (q.num < 0)) (q2q q.num.natAbs) (q2q q.den) := by
 obtain ⟨u, d, he, hu, hd⟩ := h
 exact ⟨u, d, he, hu, hd⟩
theorem q5h {R : Nat} {d x y z : Value} {t : TypeId} (hR : w.heap[R]? = some (.cells #[x, y, z] t (0, 0))) :
  (d7q w R b u d).heap[R]? = some (.cells #[.bool b, u, d] t (0, 0)) :=
 heap_setCell_same _ _ 2 _ _ _ (heap_setCell_same _ _ 1 _ _ _ (heap_setCell_same _ _ 0 _ _ _ hR))
theorem s8q {g : Nat} {cs : Array Value} {t : TypeId} (h : w.heap[g]? = some (.cells cs t (0, 0))) :
  ∀ (o : Nat) (w' : World), Below w.heap.size w w' → w'.frozen? ⟨g, o, none⟩ = false :=
 fun o _ hb => frozen_of_row _ _ o _ _ ((hb.block _ (lt_of_block h)).trans h)
theorem v6j (h0 : S.num ≠ 0) : j5q S⁻¹ = j5q S := by
 unfold j5q
 rw [j0h, Rat.den_inv, if_neg h0, if_neg h0]; omega
theorem v8j {w3 W : World} {M N : Nat} {t : TypeId} {b1 b2 : Bool} {a1 i1 a2 i2 a3 i3 a4 i4 : Option Addr} {n1 c1 j1 k1 n2 c2 j2 k2 n3 c3 j3 k3 n4 c4 j4 k4 : Nat} {A B : Rat}
  (hX : w3.heap[N]? = some (.cells #[.bool b1, .slice a1 n1 c1, .slice i1 j1 k1] t (0, 0))) (hY : w3.heap[N + 1]? = some (.cells #[.bool b2, .slice a2 n2 c2, .slice i2 j2 k2] t (0, 0)))
  (f1 : j3q w3 (.agg #[.bool (decide (A.num < 0)), .slice a3 n3 c3, .slice i3 j3 k3]) A) (f2 : j3q w3 (.agg #[.bool (decide (B.num < 0)), .slice a4 n4 c4, .slice i4 j4 k4]) B)
  (hb : Below M w w3) (hM : M ≤ N)
  (hW : W = d7q (d7q w3 N (decide (A.num < 0)) (.slice a3 n3 c3) (.slice i3 j3 k3)) (N + 1) (decide (B.num < 0)) (.slice a4 n4 c4) (.slice i4 j4 k4)) :
  W.heap[N]? = some (.cells #[.bool (decide (A.num < 0)), .slice a3 n3 c3, .slice i3 j3 k3] t (0, 0)) ∧ W.heap[N + 1]? = some (.cells #[.bool (decide (B.num < 0)), .slice a4 n4 c4, .slice i4 j4 k4] t (0, 0)) ∧
  j3q W (.agg #[.bool (decide (A.num < 0)), .slice a3 n3 c3, .slice i3 j3 k3]) A ∧ j3q W (.agg #[.bool (decide (B.num < 0)), .slice a4 n4 c4, .slice i4 j4 k4]) B ∧ Below M w W ∧ (∀ k, k ≠ N → k ≠ N + 1 → W.heap[k]? = w3.heap[k]?) := by
 obtain ⟨W1, hW1⟩ := qx (d7q w3 N (decide (A.num < 0)) (.slice a3 n3 c3) (.slice i3 j3 k3))
 rw [← hW1] at hW
 have o1 : z9q N w3 W1 := by rw [hW1]; exact q7q _ _ _ _ _
 have e1 : W1.heap[N]? = some (.cells #[.bool (decide (A.num < 0)), .slice a3 n3 c3, .slice i3 j3 k3] t (0, 0)) := by rw [hW1]; exact q5h hX
 have hY1 := (o1.block (N + 1) (by omega)).trans hY
 have o2 : z9q (N + 1) W1 W := by rw [hW]; exact q7q _ _ _ _ _
 have e2 : W.heap[N + 1]? = some (.cells #[.bool (decide (B.num < 0)), .slice a4 n4 c4, .slice i4 j4 k4] t (0, 0)) := by rw [hW]; exact q5h hY1
 refine ⟨(o2.block N (by omega)).trans e1, e2, ?_, ?_, ?_, ?_⟩
 ·
  exact (f1.other hX o1).other hY1 o2
 ·
  exact (f2.other hX o1).other hY1 o2
 ·
  exact q4q (q4q hb o1 hM) o2 (by omega)
 ·
  exact fun k h1 h2 => (o2.block k h2).trans (o1.block k h1)

def x3z (w : World) (z : Bool) (Q : Rat) (e : Ending) (w' : World) : Prop :=
 (if z then e = .returned (.tuple #[.agg #[Value.bool false, Value.slice none 0 0, Value.slice none 0 0], .int .i64 11]) else ∃ r, e = .returned (.tuple #[r, .int .i64 0]) ∧ j3q w' r Q) ∧ Below w.heap.size w w'

theorem g8w (hv : m3q w v b l m) (ht : m3q w t c l2 m2) (h1 : l.length + m.length ≤ 4096) (h2 : l2.length + m2.length ≤ 4096) :
  Calls Tryz.prog 119 #[v, t] w (x3z w (g7q (v1q c l2 m2).num.natAbs) (k6q (v1q b l m * (v1q c l2 m2)⁻¹))) := by
 have HV := hdd hv
 have HT := hdd ht
 obtain ⟨u, d, rfl, hu, hd⟩ := hv
 obtain ⟨ua, un, uc, hue⟩ := hu.form
 subst hue
 obtain ⟨da, dn, dc, hde⟩ := hd.form
 subst hde
 obtain ⟨u2, d2, rfl, hu2, hd2⟩ := ht
 obtain ⟨va, vn, vc, hve⟩ := hu2.form
 subst hve
 obtain ⟨ea, en, ec, hee⟩ := hd2.form
 subst hee
 obtain ⟨w1, hw1⟩ := qx ((((w.alloc (Obj.cells #[.bool b, .slice ua un uc, .slice da dn dc] 43)).alloc (Obj.cells #[.bool c, .slice va vn vc, .slice ea en ec] 43)).alloc (Obj.cells #[.bool false, .slice none 0 0, .slice none 0 0] 43)))
 have HB1 : Hi (Below w.heap.size w w1) := hdd (by rw [hw1]; exact (((qb).alloc qm _).alloc (by simp) _).alloc (by simp; omega) _)
 have HX : Hi (w1.heap[w.heap.size]? = some (.cells #[.bool b, .slice ua un uc, .slice da dn dc] 43 (0, 0))) := hdd (by rw [hw1]; exact p8q w _ _ _)
 have HY : Hi (w1.heap[w.heap.size + 1]? = some (.cells #[.bool c, .slice va vn vc, .slice ea en ec] 43 (0, 0))) := hdd (by rw [hw1]; exact p9q w _ _ _)
 have HR : Hi (w1.heap[w.heap.size + 2]? = some (.cells #[.bool false, .slice none 0 0, .slice none 0 0] 43 (0, 0))) := hdd (by rw [hw1]; exact h3q w _ _ _)
 have HW1 := hdd hw1.symm
 have LP : Hi (j5q (v1q b l m) ≤ 4096) := hdd (p3q hu.ws hd.ws)
 have LS : Hi (j5q (v1q c l2 m2) ≤ 4096) := hdd (p3q hu2.ws hd2.ws)
 clear hw1 hu hd hu2 hd2
 have KF1 := hdd (fun w' (hb : Below w1.heap.size w1 w') => e0q (w := w') (HV.o.below (q0q HB1.o hb)) h1)
 have KF2 := hdd (fun w' (hb : Below w1.heap.size w1 w') => e0q (w := w') (HT.o.below (q0q HB1.o hb)) h2)
 obtain ⟨P, hP⟩ := qx (v1q b l m)
 obtain ⟨S, hS⟩ := qx (v1q c l2 m2)
 rw [← hP, ← hS]
 rw [← hP] at LP KF1
 rw [← hS] at LS KF2
 obtain ⟨Q, hQ⟩ := qx (k6q (P * S⁻¹))
 have HQ := hdd hQ
 rw [← hQ]
 clear hP hS h1 h2 hQ
 have RX := hdd (q1q HX.o)
 have RY := hdd (q1q HY.o)
 have FRX := hdd (s8q HX.o)
 have FRY := hdd (s8q HY.o)
 have hz1 := Below.refl w1.heap.size w1
 have x0 := RX.o 0 _ rfl _ hz1
 have x1 := RX.o 1 _ rfl _ hz1
 have x2 := RX.o 2 _ rfl _ hz1
 have y0 := RY.o 0 _ rfl _ hz1
 have y1 := RY.o 1 _ rfl _ hz1
 have y2 := RY.o 2 _ rfl _ hz1
 have hz0 : Below w1.heap.size w1 w1.drew := q5q qb 1
 go_enter Tryz.func119, Tryz.ntmps119
 go_wp2_with fail
 rw [HW1.o]
 go_cut [5] (fun ev wr => ev = .int .i64 0 ∧ ∃ (a11 : Option Addr) (n11 c11 : Nat) (i11 : Option Addr) (j11 k11 : Nat) (a12 : Option Addr) (n12 c12 : Nat) (i12 : Option Addr) (j12 k12 : Nat), Hi (wr.heap[w.heap.size]? = some (.cells #[.bool (decide (P.num < 0)), .slice a11 n11 c11, .slice i11 j11 k11] 43 (0, 0))) ∧ Hi (wr.heap[w.heap.size + 1]? = some (.cells #[.bool (decide (S.num < 0)), .slice a12 n12 c12, .slice i12 j12 k12] 43 (0, 0))) ∧ Hi (wr.heap[w.heap.size + 2]? = some (.cells #[.bool false, .slice none 0 0, .slice none 0 0] 43 (0, 0))) ∧ Hi (j3q wr (.agg #[Value.bool (decide (P.num < 0)), Value.slice a11 n11 c11, Value.slice i11 j11 k11]) P) ∧ Hi (j3q wr (.agg #[Value.bool (decide (S.num < 0)), Value.slice a12 n12 c12, Value.slice i12 j12 k12]) S) ∧ Hi (Below w.heap.size w wr))
 case first =>
  go_region_with (first | (go_at_call_of 59 (Value.slice ua un uc); refine (KF1.o _ hz0).mono ?_; rintro en11 w11 ⟨⟨v11, rfl, f11⟩, hb11⟩; obtain ⟨a11, n11, c11, i11, j11, k11, hq11⟩ := q8q f11; subst hq11; have hz11 := q0q hz0 hb11; have y0 := RY.o 0 _ rfl _ hz11; have y1 := RY.o 1 _ rfl _ hz11; have y2 := RY.o 2 _ rfl _ hz11) | (go_at_call_of 59 (Value.slice va vn vc); refine (KF2.o _ hz11).mono ?_; rintro en12 w12 ⟨⟨v12, rfl, f12⟩, hb12⟩; obtain ⟨a12, n12, c12, i12, j12, k12, hq12⟩ := q8q f12; subst hq12; have hz12 := q0q hz11 hb12; have x0 := RX.o 0 _ rfl _ hz12; have xf0 := FRX.o 0 _ hz12; have x1 := RX.o 1 _ rfl _ hz12; have xf1 := FRX.o 1 _ hz12; have x2 := RX.o 2 _ rfl _ hz12; have xf2 := FRX.o 2 _ hz12; have y0 := RY.o 0 _ rfl _ hz12; have yf0 := FRY.o 0 _ hz12; have y1 := RY.o 1 _ rfl _ hz12; have yf1 := FRY.o 1 _ hz12; have y2 := RY.o 2 _ rfl _ hz12; have yf2 := FRY.o 2 _ hz12))
  all_goals
   go_wp2_with fail
   go_meet
  all_goals
   have hS := v8j (W := _) ((hz12.block _ (lt_of_block HX.o)).trans HX.o) ((hz12.block _ (lt_of_block HY.o)).trans HY.o) (f11.below hb12) f12 (q0q HB1.o hz12) qm rfl
   exact ⟨rfl, _, _, _, _, _, _, _, _, _, _, _, _, hdd hS.1, hdd hS.2.1, hdd ((hS.2.2.2.2.2 (w.heap.size + 2) (by omega) (by omega)).trans ((hz12.block _ (lt_of_block HR.o)).trans HR.o)), hdd hS.2.2.1, hdd hS.2.2.2.1, hdd hS.2.2.2.2.1⟩
 case rest =>
  obtain ⟨w4, rfl⟩ : ∃ w8 : World, w8 = wc := ⟨_, rfl⟩
  obtain ⟨rfl, a11, n11, c11, i11, j11, k11, a12, n12, c12, i12, j12, k12, HX4, HY4, HR4, HFA, HFB, HW4⟩ := hcut
  clear x0 x1 x2 y0 y1 y2 hz0 hz1 RX RY FRX FRY KF1 KF2
  have RX := hdd (q1q HX4.o)
  have RY := hdd (q1q HY4.o)
  have RR := hdd (q1q HR4.o)
  have FR := hdd (s8q HR4.o)
  have hz4 := Below.refl w4.heap.size w4
  have x0 := RX.o 0 _ rfl _ hz4
  have x1 := RX.o 1 _ rfl _ hz4
  have x2 := RX.o 2 _ rfl _ hz4
  have y0 := RY.o 0 _ rfl _ hz4
  have y1 := RY.o 1 _ rfl _ hz4
  have y2 := RY.o 2 _ rfl _ hz4
  have HLN : Hi (n12 = (q2q S.num.natAbs).length ∧ IsW w4 (.slice a12 n12 c12) (q2q S.num.natAbs) ∧ IsW w4 (.slice i12 j12 k12) (q2q S.den)) := hdd (by
   obtain ⟨u, d, he, hu, hd⟩ := HFB.o
   simp only [Value.agg.injEq, Array.mk.injEq, List.cons.injEq, and_true, true_and] at he
   obtain ⟨rfl, rfl⟩ := he
   exact ⟨hu.lenE, hu, hd⟩)
  by_cases h0 : S.num = 0
  ·
   have t0 : ((n12 : Int) == 0) = true := by
    have h9 := HLN.o.1
    rw [h0] at h9
    simp [y7q] at h9
    simp; omega
   have HZ : Hi (g7q S.num.natAbs = true) := hdd (by rw [h0]; rfl)
   have r0 := RR.o 0 _ rfl _ hz4
   have r1 := RR.o 1 _ rfl _ hz4
   have r2 := RR.o 2 _ rfl _ hz4
   have f0 := FR.o 0 _ hz4
   have f1 := FR.o 1 _ hz4
   have f2 := FR.o 2 _ hz4
   clear h0
   go_wp2_with fail
   exact bodyPost_ret (h1q rfl _ _ (w.heap.size + 2) _ _ _ _ rfl (z5q HR4.o) Tryz.underlying43 rfl v0q) rfl ⟨by rw [HZ.o, if_pos rfl]; rfl, q4q HW4.o (q7q _ _ _ _ _) (by omega)⟩
  ·
   have t0 : ((n12 : Int) == 0) = false := by
    have h9 := HLN.o.1
    rw [k1q (by omega)] at h9
    simp at h9
    simp; omega
   have HZ : Hi (g7q S.num.natAbs = false) := hdd (f2q (by omega))
   have HI : Hi (j3q w4 (.agg #[Value.bool (decide (S.num < 0)), Value.slice i12 j12 k12, Value.slice a12 n12 c12]) S⁻¹) := hdd ⟨_, _, by rw [v2k], by rw [j0h, if_neg h0]; exact HLN.o.2.2, by rw [Rat.den_inv, if_neg h0]; exact HLN.o.2.1⟩
   have K := hdd (z6v HFA.o HI.o LP.o (by rw [v6j h0]; exact LS.o))
   rw [← HQ.o] at K
   clear h0
   go_wp2_with fail
   refine K.o.mono ?_
   rintro en5 w5 ⟨⟨r5, rfl, f5⟩, hb5⟩
   obtain ⟨a5, n5, c5, i5, j5, k5, hq5⟩ := q8q f5
   subst hq5
   have hz5 := q0q hz4 hb5
   have r0 := RR.o 0 _ rfl _ hz5
   have r1 := RR.o 1 _ rfl _ hz5
   have r2 := RR.o 2 _ rfl _ hz5
   have f0 := FR.o 0 _ hz5
   have f1 := FR.o 1 _ hz5
   have f2 := FR.o 2 _ hz5
   have HR5 : Hi (w5.heap[w.heap.size + 2]? = some (.cells #[.bool false, .slice none 0 0, .slice none 0 0] 43 (0, 0))) := hdd ((hz5.block _ (lt_of_block HR4.o)).trans HR4.o)
   have HF5 := hdd (f5.other HR5.o (q7q _ _ (decide (Q.num < 0)) (Value.slice a5 n5 c5) (Value.slice i5 j5 k5)))
   have HB5 := hdd (q0q HW4.o hb5)
   clear f5 hb5 x0 x1 x2 y0 y1 y2
   go_wp2_with fail
   exact bodyPost_ret (h1q rfl _ _ (w.heap.size + 2) _ _ _ _ rfl (z5q HR5.o) Tryz.underlying43 rfl v0q) rfl ⟨by rw [HZ.o, if_neg (by simp)]; exact ⟨_, rfl, HF5.o⟩, q4q HB5.o (q7q _ _ _ _ _) (by omega)⟩

theorem g8k (hv : j3q w v P) (ht : j3q w t S) (h1 : j5q P ≤ 4096) (h2 : j5q S ≤ 4096) :
  Calls Tryz.prog 119 #[v, t] w (x3z w (g7q S.num.natAbs) (k6q (P * S⁻¹))) := by
 have h := g8w hv.raw ht.raw h1 h2
 rwa [t4q h1, t4q h2] at h

theorem j1z (n : Int) (h1 : -9223372036854775808 ≤ n) (h2 : n ≤ 9223372036854775807) : j5q (n : Rat) ≤ 3 := by
 have h := j9v n h1 h2
 have e : (q2q (n : Rat).den).length = 1 := by show (q2q 1).length = 1; rw [a1q]; rfl
 have e2 : (n : Rat).num.natAbs = n.natAbs := rfl
 unfold j5q
 rw [e, e2]; omega
theorem g6h (n : Int) : mkRat n 1 = (n : Rat) := by
 have h := Rat.mkRat_self (n : Rat)
 exact h

theorem u9x (n : Int) (h1 : -9223372036854775808 ≤ n) (h2 : n ≤ 9223372036854775807) :
  Calls Tryz.prog 120 #[.int .i64 n] w fun e w' => (∃ r, e = .returned r ∧ j3q w' r (n : Rat)) ∧ Below w.heap.size w w' := by
 obtain ⟨w1, hw1, HB1, HR1⟩ := al1 w #[.bool false, .slice none 0 0, .slice none 0 0] 43
 have HW1 := hdd hw1.symm
 have HQ : Hi (k6q (mkRat n 1) = (n : Rat)) := hdd (by rw [g6h, i7q (by have := j1z n h1 h2; omega)])
 have HL : Hi ((q2q n.natAbs).length < 1073741824) := hdd (by have := j9v n h1 h2; omega)
 clear hw1
 by_cases hn : n < 0
 ·
  obtain ⟨k, hk⟩ : ∃ k : Nat, n = -(k : Int) - 1 := ⟨(n + 1).natAbs, by omega⟩
  have t0 : decide (-(k : Int) - 1 < 0) = true := by simp; omega
  have hk9 : k < 9223372036854775808 := by omega
  have HNA : Hi (n.natAbs = k + 1) := hdd (by omega)
  have e1 : IntKind.i64.wrap (-(k : Int) - 1 + 1) = -(k : Int) := by rw [IntKind.wrap_i64]; omega
  have e2 : IntKind.i64.wrap (-(-(k : Int))) = (k : Int) := by rw [IntKind.wrap_i64]; omega
  have e2' : IntKind.i64.wrap (k : Int) = (k : Int) := by rw [IntKind.wrap_i64]; omega
  have e3 : IntKind.u64.wrap (k : Int) = (k : Int) := by rw [IntKind.wrap_u64]; omega
  have e4 : IntKind.u64.wrap ((k : Int) + 1) = (k : Int) + 1 := by rw [IntKind.wrap_u64]; omega
  have K1 : Hi (∀ w', Calls Tryz.prog 141 #[.int .u64 ((k : Int) + 1)] w' fun e w'' => (∃ r, e = .returned r ∧ IsW w'' r (q2q (k + 1)) ∧ (∀ b, r.ownBlock = some b → w'.heap.size ≤ b)) ∧ Below w'.heap.size w' w'') := hdd (fun w' => z8h (k + 1) (by omega))
  have K3 := hdd (fun w' x y (h : IsW w' x (q2q (k + 1))) (j : IsW w' y (q2q 1)) => q8k (w := w') (u := x) (v := y) (b := true) (z := n) (y := 1) (by rw [HNA.o]; exact h) j (by omega) (fun _ => by simp [hn]) HL.o (by rw [a1q]; simp))
  rw [HQ.o] at K3
  obtain ⟨q, hq⟩ := qx ((n : Rat) : Rat)
  rw [← hq] at K3 ⊢
  clear hq hn h1 h2
  subst hk
  go_enter Tryz.func120, Tryz.ntmps120
  go_wp2_with fail
  rw [HW1.o]
  refine (K1.o _).mono ?_
  rintro en2 w2 ⟨⟨r2, rfl, hr2, -⟩, hb2⟩
  obtain ⟨a2, n2, c2, he2⟩ := hr2.form
  subst he2
  go_wp2_with fail
  refine y8x.mono ?_
  rintro en3 w3 ⟨⟨r3, rfl, hr3, -⟩, hb3⟩
  obtain ⟨a3, n3, c3, he3⟩ := hr3.form
  subst he3
  go_wp2_with fail
  refine (K3.o _ _ _ (hr2.below hb3) hr3).mono ?_
  rintro en4 w4 ⟨⟨r4, rfl, f4⟩, hb4⟩
  obtain ⟨a4, n4, c4, i4, j4, k4, hq4⟩ := q8q f4
  subst hq4
  have hz4 := q0q hb2 (q0q hb3 hb4)
  have HR4 : Hi (w4.heap[w.heap.size]? = some (.cells #[.bool false, .slice none 0 0, .slice none 0 0] 43 (0, 0))) := hdd ((hz4.block _ (lt_of_block HR1.o)).trans HR1.o)
  have HF4 := hdd (f4.other HR4.o (q7q _ _ (decide (q.num < 0)) (Value.slice a4 n4 c4) (Value.slice i4 j4 k4)))
  have HB4 := hdd (q0q HB1.o hz4)
  have r0 := q1q HR4.o 0 _ rfl _ qb
  have r1 := q1q HR4.o 1 _ rfl _ qb
  have r2 := q1q HR4.o 2 _ rfl _ qb
  have f0 := frozen_of_row _ _ 0 _ _ HR4.o
  have f1 := frozen_of_row _ _ 1 _ _ HR4.o
  have f2 := frozen_of_row _ _ 2 _ _ HR4.o
  clear f4 hb2 hb3 hb4 hr2 hr3 hz4
  go_wp2_with fail
  exact bodyPost_ret (results_cell_row rfl _ _ w.heap.size _ _ _ _ rfl (z5q HR4.o) Tryz.underlying43 rfl v0q) rfl ⟨⟨_, rfl, HF4.o⟩, q4q HB4.o (q7q _ _ _ _ _) (by omega)⟩
 ·
  obtain ⟨k, hk⟩ : ∃ k : Nat, n = (k : Int) := ⟨n.natAbs, by omega⟩
  have t0 : decide ((k : Int) < 0) = false := by simp
  have hk9 : k < 9223372036854775808 := by omega
  have HNA : Hi (n.natAbs = k) := hdd (by omega)
  have e3 : IntKind.u64.wrap (k : Int) = (k : Int) := by rw [IntKind.wrap_u64]; omega
  have K1 := hdd (fun w' => z8h (w := w') k (by omega))
  have K3 := hdd (fun w' x y (h : IsW w' x (q2q k)) (j : IsW w' y (q2q 1)) => q8k (w := w') (u := x) (v := y) (b := false) (z := n) (y := 1) (by rw [HNA.o]; exact h) j (by omega) (fun _ => by simp [hn]) HL.o (by rw [a1q]; simp))
  rw [HQ.o] at K3
  obtain ⟨q, hq⟩ := qx ((n : Rat) : Rat)
  rw [← hq] at K3 ⊢
  clear hq hn h1 h2
  subst hk
  go_enter Tryz.func120, Tryz.ntmps120
  go_wp2_with fail
  rw [HW1.o]
  refine (K1.o _).mono ?_
  rintro en2 w2 ⟨⟨r2, rfl, hr2, -⟩, hb2⟩
  obtain ⟨a2, n2, c2, he2⟩ := hr2.form
  subst he2
  go_wp2_with fail
  refine y8x.mono ?_
  rintro en3 w3 ⟨⟨r3, rfl, hr3, -⟩, hb3⟩
  obtain ⟨a3, n3, c3, he3⟩ := hr3.form
  subst he3
  go_wp2_with fail
  refine (K3.o _ _ _ (hr2.below hb3) hr3).mono ?_
  rintro en4 w4 ⟨⟨r4, rfl, f4⟩, hb4⟩
  obtain ⟨a4, n4, c4, i4, j4, k4, hq4⟩ := q8q f4
  subst hq4
  have hz4 := q0q hb2 (q0q hb3 hb4)
  have HR4 : Hi (w4.heap[w.heap.size]? = some (.cells #[.bool false, .slice none 0 0, .slice none 0 0] 43 (0, 0))) := hdd ((hz4.block _ (lt_of_block HR1.o)).trans HR1.o)
  have HF4 := hdd (f4.other HR4.o (q7q _ _ (decide (q.num < 0)) (Value.slice a4 n4 c4) (Value.slice i4 j4 k4)))
  have HB4 := hdd (q0q HB1.o hz4)
  have r0 := q1q HR4.o 0 _ rfl _ qb
  have r1 := q1q HR4.o 1 _ rfl _ qb
  have r2 := q1q HR4.o 2 _ rfl _ qb
  have f0 := frozen_of_row _ _ 0 _ _ HR4.o
  have f1 := frozen_of_row _ _ 1 _ _ HR4.o
  have f2 := frozen_of_row _ _ 2 _ _ HR4.o
  clear f4 hb2 hb3 hb4 hr2 hr3 hz4
  go_wp2_with fail
  exact bodyPost_ret (results_cell_row rfl _ _ w.heap.size _ _ _ _ rfl (z5q HR4.o) Tryz.underlying43 rfl v0q) rfl ⟨⟨_, rfl, HF4.o⟩, q4q HB4.o (q7q _ _ _ _ _) (by omega)⟩

theorem x4h (p q : Int) (hq : q ≠ 0) : d2q p q = (p : Rat) * (q : Rat)⁻¹ := by
 rw [← Rat.div_def, ← Rat.divInt_eq_div]
 unfold d2q
 rw [← Rat.divInt_ofNat, Rat.divInt_eq_divInt_iff (by omega) hq]
 by_cases h1 : p < 0 <;> by_cases h2 : q < 0
 ·
  have e1 : (p.natAbs : Int) = -p := by omega
  have e2 : (q.natAbs : Int) = -q := by omega
  rw [e1, e2]; simp [h1, h2, Int.neg_mul, Int.mul_neg]
 ·
  have e1 : (p.natAbs : Int) = -p := by omega
  have e2 : (q.natAbs : Int) = q := by omega
  rw [e1, e2]; simp [h1, h2]
 ·
  have e1 : (p.natAbs : Int) = p := by omega
  have e2 : (q.natAbs : Int) = -q := by omega
  rw [e1, e2]; simp [h1, h2, Int.neg_mul, Int.mul_neg]
 ·
  have e1 : (p.natAbs : Int) = p := by omega
  have e2 : (q.natAbs : Int) = q := by omega
  rw [e1, e2]; simp [h1, h2]
theorem x4x (p q : Int) (hp1 : -9223372036854775808 ≤ p) (hp2 : p ≤ 9223372036854775807) (hq1 : -9223372036854775808 ≤ q) (hq2 : q ≤ 9223372036854775807) (hq : q ≠ 0) : j5q ((p : Rat) * (q : Rat)⁻¹) ≤ 6 := by
 have h := j1y (p : Rat) (q : Rat)⁻¹
 rw [v6j (S := (q : Rat)) hq] at h
 have h1 := j1z p hp1 hp2
 have h2 := j1z q hq1 hq2
 omega

theorem v7z (p q : Int) (hp1 : -9223372036854775808 ≤ p) (hp2 : p ≤ 9223372036854775807) (hq1 : -9223372036854775808 ≤ q) (hq2 : q ≤ 9223372036854775807) :
  Calls Tryz.prog 93 #[.int .i64 p, .int .i64 q] w (x3z w (g7q q.natAbs) (d2q p q)) := by
 obtain ⟨w1, hw1, HB1, HR1⟩ := al1 w #[.bool false, .slice none 0 0, .slice none 0 0] 43
 have HW1 := hdd hw1.symm
 clear hw1
 have KP := hdd (fun w' => u9x (w := w') p hp1 hp2)
 have KQ := hdd (fun w' => u9x (w := w') q hq1 hq2)
 have LP := hdd (j1z p hp1 hp2)
 have LQ := hdd (j1z q hq1 hq2)
 obtain ⟨zb, hzb⟩ := qx (g7q q.natAbs)
 have HZB := hdd hzb
 have KD := hdd (fun w' x y (h : j3q w' x (p : Rat)) (k : j3q w' y (q : Rat)) => g8k (w := w') h k (by have := LP.o; omega) (by have := LQ.o; omega))
 have HZ2 : Hi (g7q (q : Rat).num.natAbs = zb) := hdd hzb.symm
 rw [HZ2.o] at KD
 have HMQ : Hi (zb = false → k6q ((p : Rat) * (q : Rat)⁻¹) = d2q p q) := hdd (fun h => by
  have hq : q ≠ 0 := fun e => by rw [hzb, e] at h; cases h
  rw [i7q (by have := x4x p q hp1 hp2 hq1 hq2 hq; omega), x4h p q hq])
 rw [← hzb]
 obtain ⟨Q, hQ⟩ := qx (k6q ((p : Rat) * (q : Rat)⁻¹))
 rw [← hQ] at KD HMQ
 obtain ⟨P', hP'⟩ : ∃ P' : Rat, P' = (p : Rat) := ⟨_, rfl⟩
 obtain ⟨S', hS'⟩ : ∃ S' : Rat, S' = (q : Rat) := ⟨_, rfl⟩
 rw [← hP'] at KP KD
 rw [← hS'] at KQ KD
 clear hp1 hp2 hq1 hq2 hzb hQ hP' hS' LP LQ HZ2
 go_enter Tryz.func93, Tryz.ntmps93
 go_wp2_with fail
 rw [HW1.o]
 refine (KP.o _).mono ?_
 rintro en2 w2 ⟨⟨v2, rfl, f2⟩, hb2⟩
 go_wp2_with fail
 refine (KQ.o _).mono ?_
 rintro en3 w3 ⟨⟨v3, rfl, f3⟩, hb3⟩
 go_wp2_with fail
 refine (KD.o _ _ _ (f2.below hb3) f3).mono ?_
 rintro en4 w4 ⟨he4, hb4⟩
 have hz4 := q0q hb2 (q0q hb3 hb4)
 have HR4 : Hi (w4.heap[w.heap.size]? = some (.cells #[.bool false, .slice none 0 0, .slice none 0 0] 43 (0, 0))) := hdd ((hz4.block _ (lt_of_block HR1.o)).trans HR1.o)
 have HB4 := hdd (q0q HB1.o hz4)
 have r0 := q1q HR4.o 0 _ rfl _ qb
 have r1 := q1q HR4.o 1 _ rfl _ qb
 have r2 := q1q HR4.o 2 _ rfl _ qb
 have g0 := frozen_of_row _ _ 0 _ _ HR4.o
 have g1 := frozen_of_row _ _ 1 _ _ HR4.o
 have g2 := frozen_of_row _ _ 2 _ _ HR4.o
 clear f2 f3 hb2 hb3 hb4 hz4
 cases zb with
 | true =>
  obtain rfl : en4 = _ := by simpa using he4
  go_wp2_with fail
  exact bodyPost_ret (h1q rfl _ _ w.heap.size _ _ _ _ rfl (z5q HR4.o) Tryz.underlying43 rfl v0q) rfl ⟨by rw [if_pos rfl]; rfl, q4q HB4.o (q7q _ _ _ _ _) (by omega)⟩
 | false =>
  obtain ⟨v4, rfl, f4⟩ : ∃ r, en4 = .returned (.tuple #[r, .int .i64 0]) ∧ j3q w4 r Q := by simpa using he4
  obtain ⟨a4, n4, c4, i4, j4, k4, hq4⟩ := q8q f4
  subst hq4
  have HF4 := hdd (f4.other HR4.o (q7q _ _ (decide (Q.num < 0)) (Value.slice a4 n4 c4) (Value.slice i4 j4 k4)))
  clear f4
  go_wp2_with fail
  exact bodyPost_ret (h1q rfl _ _ w.heap.size _ _ _ _ rfl (z5q HR4.o) Tryz.underlying43 rfl v0q) rfl ⟨by rw [if_neg (by simp), ← HMQ.o (by first | rfl | trivial)]; exact ⟨_, rfl, HF4.o⟩, q4q HB4.o (q7q _ _ _ _ _) (by omega)⟩
def sgI (b : Bool) (n : Nat) : Int := if b then -(n : Int) else n
theorem z0z (P : Rat) : sgI (decide (P.num < 0)) P.num.natAbs = P.num := by
 unfold sgI
 by_cases h : P.num < 0
 ·
  rw [decide_eq_true h, if_pos rfl]; omega
 ·
  rw [decide_eq_false h, if_neg (by simp)]; omega
theorem v7k (b : Bool) (n m : Nat) : sgI b (n * m) = sgI b n * m := by
 unfold sgI; cases b <;> simp [Int.neg_mul]
def j8z (P S : Rat) : Nat := if P.den = S.den then P.num.natAbs else P.num.natAbs * S.den
def j8y (P S : Rat) : Nat := if P.den = S.den then S.num.natAbs else S.num.natAbs * P.den
def j0x (P S : Rat) : Nat := if P.den = S.den then P.den else P.den * S.den
theorem k0z (P S : Rat) : P + S = mkRat (sgI (decide (P.num < 0)) (j8z P S) + sgI (decide (S.num < 0)) (j8y P S)) (j0x P S) := by
 by_cases h : P.den = S.den
 ·
  rw [Rat.add_def']
  unfold j8z j8y j0x
  rw [if_pos h, if_pos h, if_pos h, z0z, z0z, ← h, ← Int.add_mul]
  exact Rat.mkRat_mul_right P.den_nz
 ·
  rw [Rat.add_def']
  unfold j8z j8y j0x
  rw [if_neg h, if_neg h, if_neg h, v7k, v7k, z0z, z0z]
theorem x8j (P S : Rat) : 0 < j0x P S := by
 unfold j0x; split
 ·
  exact Nat.pos_of_ne_zero P.den_nz
 ·
  exact Nat.mul_pos (Nat.pos_of_ne_zero P.den_nz) (Nat.pos_of_ne_zero S.den_nz)
theorem x8z (h1 : j5q P ≤ 4096) (h2 : j5q S ≤ 4096) : (q2q (j8z P S)).length ≤ 8192 ∧ (q2q (j8y P S)).length ≤ 8192 ∧ (q2q (j0x P S)).length ≤ 8192 := by
 unfold j5q at h1 h2
 have e1 := k2q P.num.natAbs S.den
 have e2 := k2q S.num.natAbs P.den
 have e3 := k2q P.den S.den
 unfold j8z j8y j0x
 refine ⟨?_, ?_, ?_⟩ <;> split <;> omega
theorem x8x (h : b = c) : (sgI b x + sgI c y).natAbs = x + y ∧ (sgI b x + sgI c y ≠ 0 → b = decide (sgI b x + sgI c y < 0)) := by
 subst h
 unfold sgI
 cases b
 ·
  refine ⟨by simp; omega, fun h => ?_⟩
  simp; omega
 ·
  refine ⟨by simp; omega, fun h => ?_⟩
  simp at h ⊢; omega
theorem x8v (h : b ≠ c) (hle : y ≤ x) : (sgI b x + sgI c y).natAbs = x - y ∧ (sgI b x + sgI c y ≠ 0 → b = decide (sgI b x + sgI c y < 0)) := by
 unfold sgI
 cases b <;> cases c <;> simp at h ⊢ <;> refine ⟨by omega, fun h => ?_⟩ <;> omega
theorem x8y (h : b ≠ c) (hle : x < y) : (sgI b x + sgI c y).natAbs = y - x ∧ (sgI b x + sgI c y ≠ 0 → c = decide (sgI b x + sgI c y < 0)) := by
 unfold sgI
 cases b <;> cases c <;> simp at h ⊢ <;> refine ⟨by omega, fun h => ?_⟩ <;> omega
theorem v5y : u3q x y = 0 ↔ x = y := by
 unfold u3q; split
 ·
  simp; omega
 ·
  split <;> simp <;> omega
theorem v5v : 0 ≤ u3q x y ↔ y ≤ x := by
 unfold u3q; split
 ·
  simp; omega
 ·
  split <;> simp <;> omega
theorem z9w (x y : Nat) : u3q x y = ((x : Int) - y).sign := by
 unfold u3q; split
 ·
  rw [Int.sign_eq_neg_one_of_neg (by omega)]
 ·
  split
  ·
   rw [Int.sign_eq_one_of_pos (by omega)]
  ·
   have : (x : Int) - y = 0 := by omega
   rw [this]; rfl

theorem g9x (hv : j3q w v P) (ht : j3q w t S) (h1 : j5q P ≤ 4096) (h2 : j5q S ≤ 4096) :
  Calls Tryz.prog 137 #[v, t] w fun e w' => (∃ r, e = .returned r ∧ j3q w' r (k6q (P + S))) ∧ Below w.heap.size w w' := by
 obtain ⟨u, d, rfl, hu, hd⟩ := hv
 obtain ⟨ua, un, uc, hue⟩ := hu.form
 subst hue
 obtain ⟨da, dn, dc, hde⟩ := hd.form
 subst hde
 obtain ⟨u2, d2, rfl, hu2, hd2⟩ := ht
 obtain ⟨va, vn, vc, hve⟩ := hu2.form
 subst hve
 obtain ⟨ea, en, ec, hee⟩ := hd2.form
 subst hee
 obtain ⟨b, hb⟩ := qx (decide (P.num < 0))
 obtain ⟨c, hc⟩ := qx (decide (S.num < 0))
 rw [← hb, ← hc]
 obtain ⟨w1, hw1⟩ := qx ((((w.alloc (Obj.cells #[.bool b, .slice ua un uc, .slice da dn dc] 43)).alloc (Obj.cells #[.bool c, .slice va vn vc, .slice ea en ec] 43)).alloc (Obj.cells #[.bool false, .slice none 0 0, .slice none 0 0] 43)))
 have HB1 : Hi (Below w.heap.size w w1) := hdd (by rw [hw1]; exact (((qb).alloc qm _).alloc (by simp) _).alloc (by simp; omega) _)
 have HX : Hi (w1.heap[w.heap.size]? = some (.cells #[.bool b, .slice ua un uc, .slice da dn dc] 43 (0, 0))) := hdd (by rw [hw1]; exact p8q w _ _ _)
 have HY : Hi (w1.heap[w.heap.size + 1]? = some (.cells #[.bool c, .slice va vn vc, .slice ea en ec] 43 (0, 0))) := hdd (by rw [hw1]; exact p9q w _ _ _)
 have HR : Hi (w1.heap[w.heap.size + 2]? = some (.cells #[.bool false, .slice none 0 0, .slice none 0 0] 43 (0, 0))) := hdd (by rw [hw1]; exact h3q w _ _ _)
 have HW1 := hdd hw1.symm
 clear hw1
 have HSM := hdd (k0z P S)
 have HDP := hdd (x8j P S)
 obtain ⟨hx9, hy9, hd9⟩ := x8z h1 h2
 have HL1 : Hi ((q2q P.num.natAbs).length + (q2q P.den).length ≤ 4096) := hdd h1
 have HL2 : Hi ((q2q S.num.natAbs).length + (q2q S.den).length ≤ 4096) := hdd h2
 rw [← hb, ← hc] at HSM
 have HU := hdd (hu.below HB1.o)
 have HD := hdd (hd.below HB1.o)
 have HU2 := hdd (hu2.below HB1.o)
 have HD2 := hdd (hd2.below HB1.o)
 obtain ⟨X, hX⟩ := qx (j8z P S)
 obtain ⟨Y, hY⟩ := qx (j8y P S)
 obtain ⟨D, hD⟩ := qx (j0x P S)
 rw [← hX, ← hY, ← hD] at HSM
 rw [← hD] at HDP
 rw [← hX] at hx9
 rw [← hY] at hy9
 rw [← hD] at hd9
 have HXX := hdd hX
 have HYY := hdd hY
 have HDD := hdd hD
 have LX := hdd hx9
 have LY := hdd hy9
 have LD := hdd hd9
 obtain ⟨Q, hQ⟩ := qx (k6q (P + S))
 have HQ := hdd hQ
 rw [← hQ]
 obtain ⟨o, ho⟩ := qx (u3q P.den S.den)
 have HO := hdd ho
 have KO := hdd (fun w' (h : Below w1.heap.size w1 w') => q0j (w := w') (HD.o.below h) (HD2.o.below h))
 rw [← ho] at KO
 clear hu hd hu2 hd2 hb hc h1 h2 hX hY hD hx9 hy9 hd9 hQ ho
 have R0 : Hi (∀ o v, (#[Value.bool false, Value.slice none 0 0, Value.slice none 0 0] : Array Value)[o]? = some v → ∀ w', Below w1.heap.size w1 w' → w'.cell? ⟨w.heap.size + 2, o, none⟩ = some v ∧ w'.frozen? ⟨w.heap.size + 2, o, none⟩ = false) :=
  hdd (fun o v h w' hb => ⟨q1q HR.o o v h w' hb, frozen_of_row _ _ o _ _ ((hb.block _ (lt_of_block HR.o)).trans HR.o)⟩)
 have RX := hdd (q1q HX.o)
 have RY := hdd (q1q HY.o)
 have hz1 := Below.refl w1.heap.size w1
 have x0 := RX.o 0 _ rfl _ hz1
 have x1 := RX.o 1 _ rfl _ hz1
 have x2 := RX.o 2 _ rfl _ hz1
 have y0 := RY.o 0 _ rfl _ hz1
 have y1 := RY.o 1 _ rfl _ hz1
 have y2 := RY.o 2 _ rfl _ hz1
 go_enter Tryz.func137, Tryz.ntmps137
 go_wp2_with fail
 rw [HW1.o]
 go_quiet (fail)
 obtain ⟨wq, hwq⟩ := qx (w1.drewN nq)
 have hzq : Below w1.heap.size w1 wq := by rw [hwq]; exact q5q qb _
 rw [← hwq]
 have hz1' := hzq
 clear hwq x0 x1 x2 y0 y1 y2
 have x0 := RX.o 0 _ rfl _ hzq
 have x1 := RX.o 1 _ rfl _ hzq
 have x2 := RX.o 2 _ rfl _ hzq
 have y0 := RY.o 0 _ rfl _ hzq
 have y1 := RY.o 1 _ rfl _ hzq
 have y2 := RY.o 2 _ rfl _ hzq
 go_wp2_with fail
 refine (KO.o _ hzq).mono ?_
 rintro en0 w0 ⟨rfl, n0, rfl⟩
 have hz2 : Below w1.heap.size w1 (wq.drewN n0) := q5q hzq n0
 obtain ⟨w2, hw2⟩ := qx (wq.drewN n0)
 rw [← hw2] at hz2 ⊢
 clear hw2 x0 x1 x2 y0 y1 y2 hz1' hzq
 have x0 := RX.o 0 _ rfl _ hz2
 have x1 := RX.o 1 _ rfl _ hz2
 have x2 := RX.o 2 _ rfl _ hz2
 have y0 := RY.o 0 _ rfl _ hz2
 have y1 := RY.o 1 _ rfl _ hz2
 have y2 := RY.o 2 _ rfl _ hz2
 go_upto_if 19 with fail
 go_cut [5, 6, 7] (fun xv yv dv wr => ∃ (xa : Option Addr) (xn xc : Nat) (ya : Option Addr) (yn yc : Nat) (ga : Option Addr) (gn gc : Nat), xv = .slice xa xn xc ∧ yv = .slice ya yn yc ∧ dv = .slice ga gn gc ∧ Hi (IsW wr (.slice xa xn xc) (q2q X)) ∧ Hi (IsW wr (.slice ya yn yc) (q2q Y)) ∧ Hi (IsW wr (.slice ga gn gc) (q2q D)) ∧ Hi (Below w1.heap.size w1 wr))
 case first =>
  by_cases hden : P.den = S.den
  ·
   have t0 : (o == 0) = true := by simp only [beq_iff_eq]; rw [HO.o]; exact v5y.2 hden
   have t1 : (o != 0) = false := by simp only [bne, t0, Bool.not_true]
   have HE : Hi (X = P.num.natAbs ∧ Y = S.num.natAbs ∧ D = P.den) := hdd ⟨by rw [HXX.o]; unfold j8z; rw [if_pos hden], by rw [HYY.o]; unfold j8y; rw [if_pos hden], by rw [HDD.o]; unfold j0x; rw [if_pos hden]⟩
   clear hden
   go_wp2_with fail
   go_meet
   exact ⟨_, _, _, _, _, _, _, _, _, rfl, rfl, rfl, hdd (by rw [HE.o.1]; exact HU.o.below hz2), hdd (by rw [HE.o.2.1]; exact HU2.o.below hz2), hdd (by rw [HE.o.2.2]; exact HD.o.below hz2), hdd hz2⟩
  ·
   have t0 : (o == 0) = false := by
    have h9 : o ≠ 0 := fun e => hden (v5y.1 (by rw [← HO.o]; exact e))
    simpa using h9
   have t1 : (o != 0) = true := by simp only [bne, t0, Bool.not_false]
   have HE : Hi (X = P.num.natAbs * S.den ∧ Y = S.num.natAbs * P.den ∧ D = P.den * S.den) := hdd ⟨by rw [HXX.o]; unfold j8z; rw [if_neg hden], by rw [HYY.o]; unfold j8y; rw [if_neg hden], by rw [HDD.o]; unfold j0x; rw [if_neg hden]⟩
   clear hden
   have K1 := hdd (fun w' (hb : Below w1.heap.size w1 w') => a3q (w := w') (HU.o.below hb) (HD2.o.below hb) (by have := HL1.o; have := HL2.o; omega))
   have K2 := hdd (fun w' (hb : Below w1.heap.size w1 w') => a3q (w := w') (HU2.o.below hb) (HD.o.below hb) (by have := HL1.o; have := HL2.o; omega))
   have K3 := hdd (fun w' (hb : Below w1.heap.size w1 w') => a3q (w := w') (HD.o.below hb) (HD2.o.below hb) (by have := HL1.o; have := HL2.o; omega))
   rw [← HE.o.1] at K1
   rw [← HE.o.2.1] at K2
   rw [← HE.o.2.2] at K3
   clear HE
   have hz0 : Below w1.heap.size w1 w2.drew := q5q hz2 1
   go_wp2_with fail
   go_region_held3 (fun w' => w'.cell? ⟨w.heap.size, 0, none⟩ = some (.bool b) ∧ w'.cell? ⟨w.heap.size, 1, none⟩ = some (.slice ua un uc) ∧ w'.cell? ⟨w.heap.size, 2, none⟩ = some (.slice da dn dc) ∧ w'.cell? ⟨w.heap.size + 1, 0, none⟩ = some (.bool c) ∧ w'.cell? ⟨w.heap.size + 1, 1, none⟩ = some (.slice va vn vc) ∧ w'.cell? ⟨w.heap.size + 1, 2, none⟩ = some (.slice ea en ec))
    (((try dsimp only); refine ⟨?_, ?_, ?_, ?_, ?_, ?_⟩ <;> (first | exact RX.o _ _ rfl _ (by assumption) | exact RY.o _ _ rfl _ (by assumption) | (rw [World.cell?_setCell_far _ _ _ _ (by dsimp only; omega), World.cell?_setCell_far _ _ _ _ (by dsimp only; omega), World.cell?_setCell_far _ _ _ _ (by dsimp only; omega)]; first | exact RX.o _ _ rfl _ (by assumption) | exact RY.o _ _ rfl _ (by assumption)) | go_keep)))
    (first | (go_at_call_of 95 (Value.slice ua un uc); refine (K1.o _ hz0).mono ?_; rintro en4 w4 ⟨⟨r4, rfl, hr4, ho4⟩, hb4⟩; obtain ⟨a4, n4, c4, he4⟩ := hr4.form; subst he4; have hz4 := q0q hz0 hb4) | (go_at_call_of 95 (Value.slice va vn vc); refine (K2.o _ hz4).mono ?_; rintro en5 w5 ⟨⟨r5, rfl, hr5, ho5⟩, hb5⟩; obtain ⟨a5, n5, c5, he5⟩ := hr5.form; subst he5; have hz5 := q0q hz4 hb5) | (go_at_call 95; refine (K3.o _ hz5).mono ?_; rintro en6 w6 ⟨⟨r6, rfl, hr6, ho6⟩, hb6⟩; obtain ⟨a6, n6, c6, he6⟩ := hr6.form; subst he6; have hz6 := q0q hz5 hb6))
   go_wp2_with fail
   go_meet
   exact ⟨_, _, _, _, _, _, _, _, _, rfl, rfl, rfl, hdd ((hr4.below hb5).below hb6), hdd (hr5.below hb6), hdd hr6, hdd hz6⟩
 case rest =>
  obtain ⟨w8, rfl⟩ : ∃ w8 : World, w8 = wc := ⟨_, rfl⟩
  obtain ⟨xa, xn, xc, ya, yn, yc, ga, gn, gc, rfl, rfl, rfl, HX8, HY8, HD8, hz8⟩ := hcut
  have hz8 := hz8.o
  clear x0 x1 x2 y0 y1 y2 hz2
  have x0 := RX.o 0 _ rfl _ hz8
  have x1 := RX.o 1 _ rfl _ hz8
  have x2 := RX.o 2 _ rfl _ hz8
  have y0 := RY.o 0 _ rfl _ hz8
  have y1 := RY.o 1 _ rfl _ hz8
  have y2 := RY.o 2 _ rfl _ hz8
  have KL := hdd (fun w' (b' : Bool) x y (z : Int) (h : IsW w' x (q2q z.natAbs)) (k : IsW w' y (q2q D)) (hs : z ≠ 0 → b' = decide (z < 0)) (hl : (q2q z.natAbs).length < 1073741824) => q8k (w := w') (u := x) (v := y) (b := b') (z := z) (y := D) h k HDP.o hs hl (by have := LD.o; omega))
  by_cases hbc : b = c
  ·
   have t0 : (b == c) = true := by simpa using hbc
   have HE := hdd (x8x (x := X) (y := Y) hbc)
   obtain ⟨z, hz⟩ := qx (sgI b X + sgI c Y)
   rw [← hz] at HE HSM
   have HQ2 : Hi (k6q (mkRat z D) = Q) := hdd (by rw [HQ.o, HSM.o])
   have K1 := hdd (fun w' (hb : Below w8.heap.size w8 w') => g3y (w := w') (HX8.o.below hb) (HY8.o.below hb) (by have := LX.o; omega) (by have := LY.o; omega))
   rw [← HE.o.1] at K1
   have HLZ : Hi ((q2q z.natAbs).length < 1073741824) := hdd (by rw [HE.o.1]; have := i9q X Y 8192 LX.o LY.o; omega)
   have K2 := hdd (fun w' x y (h : IsW w' x (q2q z.natAbs)) (k : IsW w' y (q2q D)) => KL.o w' b x y z h k HE.o.2 HLZ.o)
   rw [HQ2.o] at K2
   have hz0 : Below w1.heap.size w1 w8.drew := q5q hz8 1
   have hy0 : Below w8.heap.size w8 w8.drew := q5q qb 1
   clear hz hbc HE KL
   go_wp2_with fail
   go_region_held3 (fun w' => w'.cell? ⟨w.heap.size, 0, none⟩ = some (.bool b) ∧ w'.cell? ⟨w.heap.size, 1, none⟩ = some (.slice ua un uc) ∧ w'.cell? ⟨w.heap.size, 2, none⟩ = some (.slice da dn dc) ∧ w'.cell? ⟨w.heap.size + 1, 0, none⟩ = some (.bool c) ∧ w'.cell? ⟨w.heap.size + 1, 1, none⟩ = some (.slice va vn vc) ∧ w'.cell? ⟨w.heap.size + 1, 2, none⟩ = some (.slice ea en ec))
    (((try dsimp only); refine ⟨?_, ?_, ?_, ?_, ?_, ?_⟩ <;> (first | exact RX.o _ _ rfl _ (by assumption) | exact RY.o _ _ rfl _ (by assumption) | (rw [World.cell?_setCell_far _ _ _ _ (by dsimp only; omega), World.cell?_setCell_far _ _ _ _ (by dsimp only; omega), World.cell?_setCell_far _ _ _ _ (by dsimp only; omega)]; first | exact RX.o _ _ rfl _ (by assumption) | exact RY.o _ _ rfl _ (by assumption)) | go_keep)))
    (first | (go_at_call 160; refine (K1.o _ hy0).mono ?_; rintro en4 w4 ⟨⟨r4, rfl, hr4, ho4⟩, hb4⟩; obtain ⟨a4, n4, c4, he4⟩ := hr4.form; subst he4; have hz4 := q0q hz0 hb4; have hy4 := q0q hy0 hb4) | (go_at_call 144; refine (K2.o _ _ _ hr4 (HD8.o.below hy4)).mono ?_; rintro en6 w6 ⟨⟨r6, rfl, f6⟩, hb6⟩; obtain ⟨a6, n6, c6, i6, j6, k6, hq6⟩ := q8q f6; subst hq6; have hz6 := q0q hz4 hb6; have r0 := (R0.o 0 _ rfl _ hz6).1; have r1 := (R0.o 1 _ rfl _ hz6).1; have r2 := (R0.o 2 _ rfl _ hz6).1; have f0 := (R0.o 0 _ rfl _ hz6).2; have f1 := (R0.o 1 _ rfl _ hz6).2; have f2 := (R0.o 2 _ rfl _ hz6).2))
   have HR6 : Hi (w6.heap[w.heap.size + 2]? = some (.cells #[.bool false, .slice none 0 0, .slice none 0 0] 43 (0, 0))) := hdd ((hz6.block _ (lt_of_block HR.o)).trans HR.o)
   have HF6 := hdd (f6.other HR6.o (q7q _ _ (decide ((Q).num < 0)) (Value.slice a6 n6 c6) (Value.slice i6 j6 k6)))
   have HB6 := hdd (q0q HB1.o hz6)
   clear r0 r1 r2 f0 f1 f2
   have r0 := (R0.o 0 _ rfl _ hz6).1
   have r1 := (R0.o 1 _ rfl _ hz6).1
   have r2 := (R0.o 2 _ rfl _ hz6).1
   have f0 := (R0.o 0 _ rfl _ hz6).2
   have f1 := (R0.o 1 _ rfl _ hz6).2
   have f2 := (R0.o 2 _ rfl _ hz6).2
   go_wp2_with fail
   exact bodyPost_ret (results_cell_row rfl _ _ (w.heap.size + 2) _ _ _ _ rfl (z5q HR6.o) Tryz.underlying43 rfl v0q) rfl ⟨⟨_, rfl, HF6.o⟩, q4q HB6.o (q7q _ _ _ _ _) (by omega)⟩
  ·
   have t0 : (b == c) = false := by simpa using hbc
   obtain ⟨o2, ho2⟩ := qx (u3q X Y)
   have HO2 := hdd ho2
   have KO2 := hdd (fun w' (h : Below w8.heap.size w8 w') => q0j (w := w') (HX8.o.below h) (HY8.o.below h))
   rw [← ho2] at KO2
   have HBC := hdd hbc
   clear ho2 hbc
   go_wp2_with fail
   refine (KO2.o _ qb).mono ?_
   rintro en0 w0 ⟨rfl, n1, rfl⟩
   have hz9 : Below w1.heap.size w1 (w8.drewN n1) := q5q hz8 n1
   have hy9 : Below w8.heap.size w8 (w8.drewN n1) := q5q qb n1
   obtain ⟨w9, hw9⟩ := qx (w8.drewN n1)
   rw [← hw9] at hz9 hy9 ⊢
   clear hw9 x0 x1 x2 y0 y1 y2
   have x0 := RX.o 0 _ rfl _ hz9
   have x1 := RX.o 1 _ rfl _ hz9
   have x2 := RX.o 2 _ rfl _ hz9
   have y0 := RY.o 0 _ rfl _ hz9
   have y1 := RY.o 1 _ rfl _ hz9
   have y2 := RY.o 2 _ rfl _ hz9
   have hz0 : Below w1.heap.size w1 w9.drew := q5q hz9 1
   have hy0 : Below w8.heap.size w8 w9.drew := q5q hy9 1
   by_cases hle : Y ≤ X
   ·
    have t2 : decide (0 ≤ o2) = true := by rw [HO2.o]; simpa using v5v.2 hle
    have HE := hdd (x8v (x := X) (y := Y) HBC.o hle)
    obtain ⟨z, hz⟩ := qx (sgI b X + sgI c Y)
    rw [← hz] at HE HSM
    have HQ2 : Hi (k6q (mkRat z D) = Q) := hdd (by rw [HQ.o, HSM.o])
    have K1 := hdd (fun w' (hb : Below w8.heap.size w8 w') => y8z (w := w') (HX8.o.below hb) (HY8.o.below hb) hle)
    rw [← HE.o.1] at K1
    have HLZ : Hi ((q2q z.natAbs).length < 1073741824) := hdd (by rw [HE.o.1]; have := z6q (Nat.sub_le X Y); have := LX.o; omega)
    have K2 := hdd (fun w' x y (h : IsW w' x (q2q z.natAbs)) (k : IsW w' y (q2q D)) => KL.o w' b x y z h k HE.o.2 HLZ.o)
    rw [HQ2.o] at K2
    clear hz hle HE KL
    go_wp2_with fail
    go_region_held3 (fun w' => w'.cell? ⟨w.heap.size, 0, none⟩ = some (.bool b) ∧ w'.cell? ⟨w.heap.size, 1, none⟩ = some (.slice ua un uc) ∧ w'.cell? ⟨w.heap.size, 2, none⟩ = some (.slice da dn dc) ∧ w'.cell? ⟨w.heap.size + 1, 0, none⟩ = some (.bool c) ∧ w'.cell? ⟨w.heap.size + 1, 1, none⟩ = some (.slice va vn vc) ∧ w'.cell? ⟨w.heap.size + 1, 2, none⟩ = some (.slice ea en ec))
     (((try dsimp only); refine ⟨?_, ?_, ?_, ?_, ?_, ?_⟩ <;> (first | exact RX.o _ _ rfl _ (by assumption) | exact RY.o _ _ rfl _ (by assumption) | (rw [World.cell?_setCell_far _ _ _ _ (by dsimp only; omega), World.cell?_setCell_far _ _ _ _ (by dsimp only; omega), World.cell?_setCell_far _ _ _ _ (by dsimp only; omega)]; first | exact RX.o _ _ rfl _ (by assumption) | exact RY.o _ _ rfl _ (by assumption)) | go_keep)))
     (first | (go_at_call 161; refine (K1.o _ hy0).mono ?_; rintro en4 w4 ⟨⟨r4, rfl, hr4, ho4⟩, hb4⟩; obtain ⟨a4, n4, c4, he4⟩ := hr4.form; subst he4; have hz4 := q0q hz0 hb4; have hy4 := q0q hy0 hb4) | (go_at_call 144; refine (K2.o _ _ _ hr4 (HD8.o.below hy4)).mono ?_; rintro en6 w6 ⟨⟨r6, rfl, f6⟩, hb6⟩; obtain ⟨a6, n6, c6, i6, j6, k6, hq6⟩ := q8q f6; subst hq6; have hz6 := q0q hz4 hb6; have r0 := (R0.o 0 _ rfl _ hz6).1; have r1 := (R0.o 1 _ rfl _ hz6).1; have r2 := (R0.o 2 _ rfl _ hz6).1; have f0 := (R0.o 0 _ rfl _ hz6).2; have f1 := (R0.o 1 _ rfl _ hz6).2; have f2 := (R0.o 2 _ rfl _ hz6).2))
    have HR6 : Hi (w6.heap[w.heap.size + 2]? = some (.cells #[.bool false, .slice none 0 0, .slice none 0 0] 43 (0, 0))) := hdd ((hz6.block _ (lt_of_block HR.o)).trans HR.o)
    have HF6 := hdd (f6.other HR6.o (q7q _ _ (decide ((Q).num < 0)) (Value.slice a6 n6 c6) (Value.slice i6 j6 k6)))
    have HB6 := hdd (q0q HB1.o hz6)
    clear r0 r1 r2 f0 f1 f2
    have r0 := (R0.o 0 _ rfl _ hz6).1
    have r1 := (R0.o 1 _ rfl _ hz6).1
    have r2 := (R0.o 2 _ rfl _ hz6).1
    have f0 := (R0.o 0 _ rfl _ hz6).2
    have f1 := (R0.o 1 _ rfl _ hz6).2
    have f2 := (R0.o 2 _ rfl _ hz6).2
    go_wp2_with fail
    exact bodyPost_ret (results_cell_row rfl _ _ (w.heap.size + 2) _ _ _ _ rfl (z5q HR6.o) Tryz.underlying43 rfl v0q) rfl ⟨⟨_, rfl, HF6.o⟩, q4q HB6.o (q7q _ _ _ _ _) (by omega)⟩
   ·
    have t2 : decide (0 ≤ o2) = false := by rw [HO2.o]; simpa using (fun h => hle (v5v.1 h))
    have HE := hdd (x8y (x := X) (y := Y) HBC.o (Nat.lt_of_not_le hle))
    obtain ⟨z, hz⟩ := qx (sgI b X + sgI c Y)
    rw [← hz] at HE HSM
    have HQ2 : Hi (k6q (mkRat z D) = Q) := hdd (by rw [HQ.o, HSM.o])
    have K1 := hdd (fun w' (hb : Below w8.heap.size w8 w') => y8z (w := w') (HY8.o.below hb) (HX8.o.below hb) (Nat.le_of_not_le hle))
    rw [← HE.o.1] at K1
    have HLZ : Hi ((q2q z.natAbs).length < 1073741824) := hdd (by rw [HE.o.1]; have := z6q (Nat.sub_le Y X); have := LY.o; omega)
    have K2 := hdd (fun w' x y (h : IsW w' x (q2q z.natAbs)) (k : IsW w' y (q2q D)) => KL.o w' c x y z h k HE.o.2 HLZ.o)
    rw [HQ2.o] at K2
    clear hz hle HE KL
    go_wp2_with fail
    go_region_held3 (fun w' => w'.cell? ⟨w.heap.size, 0, none⟩ = some (.bool b) ∧ w'.cell? ⟨w.heap.size, 1, none⟩ = some (.slice ua un uc) ∧ w'.cell? ⟨w.heap.size, 2, none⟩ = some (.slice da dn dc) ∧ w'.cell? ⟨w.heap.size + 1, 0, none⟩ = some (.bool c) ∧ w'.cell? ⟨w.heap.size + 1, 1, none⟩ = some (.slice va vn vc) ∧ w'.cell? ⟨w.heap.size + 1, 2, none⟩ = some (.slice ea en ec))
     (((try dsimp only); refine ⟨?_, ?_, ?_, ?_, ?_, ?_⟩ <;> (first | exact RX.o _ _ rfl _ (by assumption) | exact RY.o _ _ rfl _ (by assumption) | (rw [World.cell?_setCell_far _ _ _ _ (by dsimp only; omega), World.cell?_setCell_far _ _ _ _ (by dsimp only; omega), World.cell?_setCell_far _ _ _ _ (by dsimp only; omega)]; first | exact RX.o _ _ rfl _ (by assumption) | exact RY.o _ _ rfl _ (by assumption)) | go_keep)))
     (first | (go_at_call 161; refine (K1.o _ hy0).mono ?_; rintro en4 w4 ⟨⟨r4, rfl, hr4, ho4⟩, hb4⟩; obtain ⟨a4, n4, c4, he4⟩ := hr4.form; subst he4; have hz4 := q0q hz0 hb4; have hy4 := q0q hy0 hb4) | (go_at_call 144; refine (K2.o _ _ _ hr4 (HD8.o.below hy4)).mono ?_; rintro en6 w6 ⟨⟨r6, rfl, f6⟩, hb6⟩; obtain ⟨a6, n6, c6, i6, j6, k6, hq6⟩ := q8q f6; subst hq6; have hz6 := q0q hz4 hb6; have r0 := (R0.o 0 _ rfl _ hz6).1; have r1 := (R0.o 1 _ rfl _ hz6).1; have r2 := (R0.o 2 _ rfl _ hz6).1; have f0 := (R0.o 0 _ rfl _ hz6).2; have f1 := (R0.o 1 _ rfl _ hz6).2; have f2 := (R0.o 2 _ rfl _ hz6).2))
    have HR6 : Hi (w6.heap[w.heap.size + 2]? = some (.cells #[.bool false, .slice none 0 0, .slice none 0 0] 43 (0, 0))) := hdd ((hz6.block _ (lt_of_block HR.o)).trans HR.o)
    have HF6 := hdd (f6.other HR6.o (q7q _ _ (decide ((Q).num < 0)) (Value.slice a6 n6 c6) (Value.slice i6 j6 k6)))
    have HB6 := hdd (q0q HB1.o hz6)
    clear r0 r1 r2 f0 f1 f2
    have r0 := (R0.o 0 _ rfl _ hz6).1
    have r1 := (R0.o 1 _ rfl _ hz6).1
    have r2 := (R0.o 2 _ rfl _ hz6).1
    have f0 := (R0.o 0 _ rfl _ hz6).2
    have f1 := (R0.o 1 _ rfl _ hz6).2
    have f2 := (R0.o 2 _ rfl _ hz6).2
    go_wp2_with fail
    exact bodyPost_ret (results_cell_row rfl _ _ (w.heap.size + 2) _ _ _ _ rfl (z5q HR6.o) Tryz.underlying43 rfl v0q) rfl ⟨⟨_, rfl, HF6.o⟩, q4q HB6.o (q7q _ _ _ _ _) (by omega)⟩

theorem v7v (hv : m3q w v b l m) (h1 : l.length + m.length ≤ 4096) :
  Calls Tryz.prog 48 #[v] w fun e w' => e = .returned (.int .i64 (z7q (v1q b l m) 0)) ∧ Below w.heap.size w w' := by
 have HV := hdd hv
 obtain ⟨u, d, rfl, hu, hd⟩ := hv
 obtain ⟨ua, un, uc, hue⟩ := hu.form
 subst hue
 obtain ⟨da, dn, dc, hde⟩ := hd.form
 subst hde
 obtain ⟨w1, hw1, HB1, HX⟩ := al1 w #[.bool b, .slice ua un uc, .slice da dn dc] 43
 have HW1 := hdd hw1.symm
 clear hw1
 have K1 := hdd (e0q (HV.o.below HB1.o) h1)
 obtain ⟨P, hP⟩ := qx (v1q b l m)
 rw [← hP] at K1 ⊢
 clear hP hu hd h1
 have HS := hdd (v0x P)
 obtain ⟨sg, hsg⟩ := qx (z7q P 0)
 rw [← hsg] at HS ⊢
 clear hsg
 have RX := hdd (q1q HX.o)
 have hz1 := Below.refl w1.heap.size w1
 have x0 := RX.o 0 _ rfl _ hz1
 have x1 := RX.o 1 _ rfl _ hz1
 have x2 := RX.o 2 _ rfl _ hz1
 go_enter Tryz.func48, Tryz.ntmps48
 go_wp2_with fail
 rw [HW1.o]
 refine K1.o.mono ?_
 rintro en2 w2 ⟨⟨v2, rfl, f2⟩, hb2⟩
 obtain ⟨a2, n2, c2, i2, j2, k2, hq2⟩ := q8q f2
 subst hq2
 have HX2 : Hi (w2.heap[w.heap.size]? = some (.cells #[.bool b, .slice ua un uc, .slice da dn dc] 43 (0, 0))) := hdd ((hb2.block _ (lt_of_block HX.o)).trans HX.o)
 go_wp2_with ((with_reducible refine j9q ?_); refine q6q rfl _ _ _ rfl w.heap.size rfl _ rfl _ _ HX2.o v0q rfl x3q ?_; intro w3 h3 hon3; refine y0q ?_)
 have HLN : Hi (n2 = (q2q P.num.natAbs).length) := hdd (by
  obtain ⟨u, d, he, hu, hd⟩ := f2
  simp only [Value.agg.injEq, Array.mk.injEq, List.cons.injEq, and_true, true_and] at he
  obtain ⟨rfl, rfl⟩ := he
  exact hu.lenE)
 have HB3 := hdd (q4q (q0q HB1.o hb2) hon3 qm)
 have hz3 := Below.refl w3.heap.size w3
 obtain ⟨bp, hbp⟩ := qx (decide (P.num < 0))
 rw [← hbp] at h3
 clear x0 x1 x2 f2 hb2 hon3 hz1
 have x0 := q1q h3 0 _ rfl _ hz3
 have x1 := q1q h3 1 _ rfl _ hz3
 have x2 := q1q h3 2 _ rfl _ hz3
 have HBP := hdd hbp
 clear h3 hbp
 refine z2q ?_
 by_cases h0 : P.num = 0
 ·
  have t0 : ((n2 : Int) == 0) = true := by
   have h9 := HLN.o
   rw [h0] at h9
   simp [y7q] at h9
   simp; omega
  have HE : Hi (sg = 0) := hdd (by rw [← HS.o, h0]; rfl)
  clear h0
  go_wp2_with fail
  go_ret
  exact ⟨by rw [HE.o]; rfl, HB3.o⟩
 ·
  have t0 : ((n2 : Int) == 0) = false := by
   have h9 := HLN.o
   rw [k1q (by omega)] at h9
   simp at h9
   simp; omega
  have H0 := hdd h0
  clear h0
  cases bp with
  | true =>
   have HE : Hi (sg = -1) := hdd (by
    have h9 : P.num < 0 := of_decide_eq_true HBP.o.symm
    rw [← HS.o, Int.sign_eq_neg_one_of_neg h9])
   go_wp2_with fail
   go_ret
   exact ⟨by rw [HE.o]; rfl, HB3.o⟩
  | false =>
   have HE : Hi (sg = 1) := hdd (by
    have h9 : ¬ P.num < 0 := of_decide_eq_false HBP.o.symm
    have := H0.o
    rw [← HS.o, Int.sign_eq_one_of_pos (by omega)])
   go_wp2_with fail
   go_ret
   exact ⟨by rw [HE.o]; rfl, HB3.o⟩

theorem g8v (hv : m3q w v b l m) (ht : m3q w t c l2 m2) (h1 : l.length + m.length ≤ 4096) (h2 : l2.length + m2.length ≤ 4096) :
  Calls Tryz.prog 108 #[v, t] w fun e w' => (∃ r, e = .returned r ∧ j3q w' r (k6q ((v1q b l m) + (v1q c l2 m2)))) ∧ Below w.heap.size w w' := by
 have HV := hdd hv
 have HT := hdd ht
 obtain ⟨u, d, rfl, hu, hd⟩ := hv
 obtain ⟨ua, un, uc, hue⟩ := hu.form
 subst hue
 obtain ⟨da, dn, dc, hde⟩ := hd.form
 subst hde
 obtain ⟨u2, d2, rfl, hu2, hd2⟩ := ht
 obtain ⟨va, vn, vc, hve⟩ := hu2.form
 subst hve
 obtain ⟨ea, en, ec, hee⟩ := hd2.form
 subst hee
 obtain ⟨w1, hw1⟩ := qx ((((w.alloc (Obj.cells #[.bool b, .slice ua un uc, .slice da dn dc] 43)).alloc (Obj.cells #[.bool c, .slice va vn vc, .slice ea en ec] 43)).alloc (Obj.cells #[.bool false, .slice none 0 0, .slice none 0 0] 43)))
 have HB1 : Hi (Below w.heap.size w w1) := hdd (by rw [hw1]; exact (((qb).alloc qm _).alloc (by simp) _).alloc (by simp; omega) _)
 have HX : Hi (w1.heap[w.heap.size]? = some (.cells #[.bool b, .slice ua un uc, .slice da dn dc] 43 (0, 0))) := hdd (by rw [hw1]; exact p8q w _ _ _)
 have HY : Hi (w1.heap[w.heap.size + 1]? = some (.cells #[.bool c, .slice va vn vc, .slice ea en ec] 43 (0, 0))) := hdd (by rw [hw1]; exact p9q w _ _ _)
 have HR : Hi (w1.heap[w.heap.size + 2]? = some (.cells #[.bool false, .slice none 0 0, .slice none 0 0] 43 (0, 0))) := hdd (by rw [hw1]; exact h3q w _ _ _)
 have HW1 := hdd hw1.symm
 clear hw1
 have LP : Hi (j5q (v1q b l m) ≤ 4096) := hdd (p3q hu.ws hd.ws)
 have LS : Hi (j5q (v1q c l2 m2) ≤ 4096) := hdd (p3q hu2.ws hd2.ws)
 have K1 := hdd (fun w' (hb : Below w1.heap.size w1 w') => e0q (w := w') (HV.o.below (q0q HB1.o hb)) h1)
 have K2 := hdd (fun w' (hb : Below w1.heap.size w1 w') => e0q (w := w') (HT.o.below (q0q HB1.o hb)) h2)
 obtain ⟨P, hP⟩ := qx (v1q b l m)
 obtain ⟨S, hS⟩ := qx (v1q c l2 m2)
 rw [← hP, ← hS]
 rw [← hP] at LP K1
 rw [← hS] at LS K2
 clear hP hS h1 h2 hu hd hu2 hd2
 obtain ⟨V, hV⟩ := qx (S)
 have LV : Hi (j5q V ≤ 4096) := hdd (by rw [hV]; exact LS.o)
 skip
 have K3 := hdd (fun w' x y (h : j3q w' x P) (k : j3q w' y V) => g9x (w := w') h k LP.o LV.o)
 obtain ⟨Q, hQ⟩ := qx (k6q (P + S))
 have HQV : Hi (k6q (P + V) = Q) := hdd (by rw [hQ, hV])
 rw [HQV.o] at K3
 rw [← hQ]
 subst hV
 clear hQ
 have R0 : Hi (∀ o v, (#[Value.bool false, Value.slice none 0 0, Value.slice none 0 0] : Array Value)[o]? = some v → ∀ w', Below w1.heap.size w1 w' → w'.cell? ⟨w.heap.size + 2, o, none⟩ = some v ∧ w'.frozen? ⟨w.heap.size + 2, o, none⟩ = false) :=
  hdd (fun o v h w' hb => ⟨q1q HR.o o v h w' hb, frozen_of_row _ _ o _ _ ((hb.block _ (lt_of_block HR.o)).trans HR.o)⟩)
 have RX := hdd (q1q HX.o)
 have RY := hdd (q1q HY.o)
 have hz1 := Below.refl w1.heap.size w1
 have x0 := RX.o 0 _ rfl _ hz1
 have x1 := RX.o 1 _ rfl _ hz1
 have x2 := RX.o 2 _ rfl _ hz1
 have y0 := RY.o 0 _ rfl _ hz1
 have y1 := RY.o 1 _ rfl _ hz1
 have y2 := RY.o 2 _ rfl _ hz1
 have hz0 : Below w1.heap.size w1 w1.drew := q5q qb 1
 go_enter Tryz.func108, Tryz.ntmps108
 go_wp2_with fail
 rw [HW1.o]
 go_region_held3 (fun w' => w'.cell? ⟨w.heap.size, 0, none⟩ = some (.bool b) ∧ w'.cell? ⟨w.heap.size, 1, none⟩ = some (.slice ua un uc) ∧ w'.cell? ⟨w.heap.size, 2, none⟩ = some (.slice da dn dc) ∧ w'.cell? ⟨w.heap.size + 1, 0, none⟩ = some (.bool c) ∧ w'.cell? ⟨w.heap.size + 1, 1, none⟩ = some (.slice va vn vc) ∧ w'.cell? ⟨w.heap.size + 1, 2, none⟩ = some (.slice ea en ec))
  (((try dsimp only); refine ⟨?_, ?_, ?_, ?_, ?_, ?_⟩ <;> (first | exact RX.o _ _ rfl _ (by assumption) | exact RY.o _ _ rfl _ (by assumption) | (rw [World.cell?_setCell_far _ _ _ _ (by dsimp only; omega), World.cell?_setCell_far _ _ _ _ (by dsimp only; omega), World.cell?_setCell_far _ _ _ _ (by dsimp only; omega)]; first | exact RX.o _ _ rfl _ (by assumption) | exact RY.o _ _ rfl _ (by assumption)) | go_keep)))
  (first | (go_at_call_of 59 (Value.slice ua un uc); refine (K1.o _ hz0).mono ?_; rintro en4 w4 ⟨⟨r4, rfl, f4⟩, hb4⟩; obtain ⟨a4, n4, c4, i4, j4, k4, hq4⟩ := q8q f4; subst hq4; have hz4 := q0q hz0 hb4) | (go_at_call 59; refine (K2.o _ hz4).mono ?_; rintro en5 w5 ⟨⟨r5, rfl, f5⟩, hb5⟩; obtain ⟨a5, n5, c5, i5, j5, k5, hq5⟩ := q8q f5; subst hq5; have hz5 := q0q hz4 hb5) | (go_at_call 137; refine (K3.o _ _ _ (f4.below hb5) f5).mono ?_; rintro en6 w6 ⟨⟨r6, rfl, f6⟩, hb6⟩; obtain ⟨a6, n6, c6, i6, j6, k6, hq6⟩ := q8q f6; subst hq6; have hz6 := q0q hz5 hb6; have r0 := (R0.o 0 _ rfl _ hz6).1; have r1 := (R0.o 1 _ rfl _ hz6).1; have r2 := (R0.o 2 _ rfl _ hz6).1; have f0 := (R0.o 0 _ rfl _ hz6).2; have f1 := (R0.o 1 _ rfl _ hz6).2; have f2 := (R0.o 2 _ rfl _ hz6).2))
 have HR6 : Hi (w6.heap[w.heap.size + 2]? = some (.cells #[.bool false, .slice none 0 0, .slice none 0 0] 43 (0, 0))) := hdd ((hz6.block _ (lt_of_block HR.o)).trans HR.o)
 have HF6 := hdd (f6.other HR6.o (q7q _ _ (decide ((Q).num < 0)) (Value.slice a6 n6 c6) (Value.slice i6 j6 k6)))
 have HB6 := hdd (q0q HB1.o hz6)
 clear r0 r1 r2 f0 f1 f2
 have r0 := (R0.o 0 _ rfl _ hz6).1
 have r1 := (R0.o 1 _ rfl _ hz6).1
 have r2 := (R0.o 2 _ rfl _ hz6).1
 have f0 := (R0.o 0 _ rfl _ hz6).2
 have f1 := (R0.o 1 _ rfl _ hz6).2
 have f2 := (R0.o 2 _ rfl _ hz6).2
 go_wp2_with fail
 exact bodyPost_ret (results_cell_row rfl _ _ (w.heap.size + 2) _ _ _ _ rfl (z5q HR6.o) Tryz.underlying43 rfl v0q) rfl ⟨⟨_, rfl, HF6.o⟩, q4q HB6.o (q7q _ _ _ _ _) (by omega)⟩
theorem g9v (hv : m3q w v b l m) (ht : m3q w t c l2 m2) (h1 : l.length + m.length ≤ 4096) (h2 : l2.length + m2.length ≤ 4096) :
  Calls Tryz.prog 109 #[v, t] w fun e w' => (∃ r, e = .returned r ∧ j3q w' r (k6q ((v1q b l m) * (v1q c l2 m2)))) ∧ Below w.heap.size w w' := by
 have HV := hdd hv
 have HT := hdd ht
 obtain ⟨u, d, rfl, hu, hd⟩ := hv
 obtain ⟨ua, un, uc, hue⟩ := hu.form
 subst hue
 obtain ⟨da, dn, dc, hde⟩ := hd.form
 subst hde
 obtain ⟨u2, d2, rfl, hu2, hd2⟩ := ht
 obtain ⟨va, vn, vc, hve⟩ := hu2.form
 subst hve
 obtain ⟨ea, en, ec, hee⟩ := hd2.form
 subst hee
 obtain ⟨w1, hw1⟩ := qx ((((w.alloc (Obj.cells #[.bool b, .slice ua un uc, .slice da dn dc] 43)).alloc (Obj.cells #[.bool c, .slice va vn vc, .slice ea en ec] 43)).alloc (Obj.cells #[.bool false, .slice none 0 0, .slice none 0 0] 43)))
 have HB1 : Hi (Below w.heap.size w w1) := hdd (by rw [hw1]; exact (((qb).alloc qm _).alloc (by simp) _).alloc (by simp; omega) _)
 have HX : Hi (w1.heap[w.heap.size]? = some (.cells #[.bool b, .slice ua un uc, .slice da dn dc] 43 (0, 0))) := hdd (by rw [hw1]; exact p8q w _ _ _)
 have HY : Hi (w1.heap[w.heap.size + 1]? = some (.cells #[.bool c, .slice va vn vc, .slice ea en ec] 43 (0, 0))) := hdd (by rw [hw1]; exact p9q w _ _ _)
 have HR : Hi (w1.heap[w.heap.size + 2]? = some (.cells #[.bool false, .slice none 0 0, .slice none 0 0] 43 (0, 0))) := hdd (by rw [hw1]; exact h3q w _ _ _)
 have HW1 := hdd hw1.symm
 clear hw1
 have LP : Hi (j5q (v1q b l m) ≤ 4096) := hdd (p3q hu.ws hd.ws)
 have LS : Hi (j5q (v1q c l2 m2) ≤ 4096) := hdd (p3q hu2.ws hd2.ws)
 have K1 := hdd (fun w' (hb : Below w1.heap.size w1 w') => e0q (w := w') (HV.o.below (q0q HB1.o hb)) h1)
 have K2 := hdd (fun w' (hb : Below w1.heap.size w1 w') => e0q (w := w') (HT.o.below (q0q HB1.o hb)) h2)
 obtain ⟨P, hP⟩ := qx (v1q b l m)
 obtain ⟨S, hS⟩ := qx (v1q c l2 m2)
 rw [← hP, ← hS]
 rw [← hP] at LP K1
 rw [← hS] at LS K2
 clear hP hS h1 h2 hu hd hu2 hd2
 obtain ⟨V, hV⟩ := qx (S)
 have LV : Hi (j5q V ≤ 4096) := hdd (by rw [hV]; exact LS.o)
 skip
 have K3 := hdd (fun w' x y (h : j3q w' x P) (k : j3q w' y V) => z6v (w := w') h k LP.o LV.o)
 obtain ⟨Q, hQ⟩ := qx (k6q (P * S))
 have HQV : Hi (k6q (P * V) = Q) := hdd (by rw [hQ, hV])
 rw [HQV.o] at K3
 rw [← hQ]
 subst hV
 clear hQ
 have R0 : Hi (∀ o v, (#[Value.bool false, Value.slice none 0 0, Value.slice none 0 0] : Array Value)[o]? = some v → ∀ w', Below w1.heap.size w1 w' → w'.cell? ⟨w.heap.size + 2, o, none⟩ = some v ∧ w'.frozen? ⟨w.heap.size + 2, o, none⟩ = false) :=
  hdd (fun o v h w' hb => ⟨q1q HR.o o v h w' hb, frozen_of_row _ _ o _ _ ((hb.block _ (lt_of_block HR.o)).trans HR.o)⟩)
 have RX := hdd (q1q HX.o)
 have RY := hdd (q1q HY.o)
 have hz1 := Below.refl w1.heap.size w1
 have x0 := RX.o 0 _ rfl _ hz1
 have x1 := RX.o 1 _ rfl _ hz1
 have x2 := RX.o 2 _ rfl _ hz1
 have y0 := RY.o 0 _ rfl _ hz1
 have y1 := RY.o 1 _ rfl _ hz1
 have y2 := RY.o 2 _ rfl _ hz1
 have hz0 : Below w1.heap.size w1 w1.drew := q5q qb 1
 go_enter Tryz.func109, Tryz.ntmps109
 go_wp2_with fail
 rw [HW1.o]
 go_region_held3 (fun w' => w'.cell? ⟨w.heap.size, 0, none⟩ = some (.bool b) ∧ w'.cell? ⟨w.heap.size, 1, none⟩ = some (.slice ua un uc) ∧ w'.cell? ⟨w.heap.size, 2, none⟩ = some (.slice da dn dc) ∧ w'.cell? ⟨w.heap.size + 1, 0, none⟩ = some (.bool c) ∧ w'.cell? ⟨w.heap.size + 1, 1, none⟩ = some (.slice va vn vc) ∧ w'.cell? ⟨w.heap.size + 1, 2, none⟩ = some (.slice ea en ec))
  (((try dsimp only); refine ⟨?_, ?_, ?_, ?_, ?_, ?_⟩ <;> (first | exact RX.o _ _ rfl _ (by assumption) | exact RY.o _ _ rfl _ (by assumption) | (rw [World.cell?_setCell_far _ _ _ _ (by dsimp only; omega), World.cell?_setCell_far _ _ _ _ (by dsimp only; omega), World.cell?_setCell_far _ _ _ _ (by dsimp only; omega)]; first | exact RX.o _ _ rfl _ (by assumption) | exact RY.o _ _ rfl _ (by assumption)) | go_keep)))
  (first | (go_at_call_of 59 (Value.slice ua un uc); refine (K1.o _ hz0).mono ?_; rintro en4 w4 ⟨⟨r4, rfl, f4⟩, hb4⟩; obtain ⟨a4, n4, c4, i4, j4, k4, hq4⟩ := q8q f4; subst hq4; have hz4 := q0q hz0 hb4) | (go_at_call 59; refine (K2.o _ hz4).mono ?_; rintro en5 w5 ⟨⟨r5, rfl, f5⟩, hb5⟩; obtain ⟨a5, n5, c5, i5, j5, k5, hq5⟩ := q8q f5; subst hq5; have hz5 := q0q hz4 hb5) | (go_at_call 138; refine (K3.o _ _ _ (f4.below hb5) f5).mono ?_; rintro en6 w6 ⟨⟨r6, rfl, f6⟩, hb6⟩; obtain ⟨a6, n6, c6, i6, j6, k6, hq6⟩ := q8q f6; subst hq6; have hz6 := q0q hz5 hb6; have r0 := (R0.o 0 _ rfl _ hz6).1; have r1 := (R0.o 1 _ rfl _ hz6).1; have r2 := (R0.o 2 _ rfl _ hz6).1; have f0 := (R0.o 0 _ rfl _ hz6).2; have f1 := (R0.o 1 _ rfl _ hz6).2; have f2 := (R0.o 2 _ rfl _ hz6).2))
 have HR6 : Hi (w6.heap[w.heap.size + 2]? = some (.cells #[.bool false, .slice none 0 0, .slice none 0 0] 43 (0, 0))) := hdd ((hz6.block _ (lt_of_block HR.o)).trans HR.o)
 have HF6 := hdd (f6.other HR6.o (q7q _ _ (decide ((Q).num < 0)) (Value.slice a6 n6 c6) (Value.slice i6 j6 k6)))
 have HB6 := hdd (q0q HB1.o hz6)
 clear r0 r1 r2 f0 f1 f2
 have r0 := (R0.o 0 _ rfl _ hz6).1
 have r1 := (R0.o 1 _ rfl _ hz6).1
 have r2 := (R0.o 2 _ rfl _ hz6).1
 have f0 := (R0.o 0 _ rfl _ hz6).2
 have f1 := (R0.o 1 _ rfl _ hz6).2
 have f2 := (R0.o 2 _ rfl _ hz6).2
 go_wp2_with fail
 exact bodyPost_ret (results_cell_row rfl _ _ (w.heap.size + 2) _ _ _ _ rfl (z5q HR6.o) Tryz.underlying43 rfl v0q) rfl ⟨⟨_, rfl, HF6.o⟩, q4q HB6.o (q7q _ _ _ _ _) (by omega)⟩
theorem y4h (h1 : ¬ P.num < 0) (h2 : ¬ S.num < 0) : u3q (P.num.natAbs * S.den) (S.num.natAbs * P.den) = z7q P S := by
 rw [z9w, q5k]
 have e1 : ((P.num.natAbs * S.den : Nat) : Int) = P.num * S.den := by rw [Int.natCast_mul]; have : (P.num.natAbs : Int) = P.num := (by omega); rw [this]
 have e2 : ((S.num.natAbs * P.den : Nat) : Int) = S.num * P.den := by rw [Int.natCast_mul]; have : (S.num.natAbs : Int) = S.num := (by omega); rw [this]
 rw [e1, e2]
theorem y4w (h1 : P.num < 0) (h2 : S.num < 0) : -u3q (P.num.natAbs * S.den) (S.num.natAbs * P.den) = z7q P S := by
 rw [z9w, q5k]
 have e1 : ((P.num.natAbs * S.den : Nat) : Int) = -(P.num * S.den) := by rw [Int.natCast_mul]; have : (P.num.natAbs : Int) = -P.num := (by omega); rw [this, Int.neg_mul]
 have e2 : ((S.num.natAbs * P.den : Nat) : Int) = -(S.num * P.den) := by rw [Int.natCast_mul]; have : (S.num.natAbs : Int) = -S.num := (by omega); rw [this, Int.neg_mul]
 rw [e1, e2, ← Int.sign_neg]
 congr 1
 omega
theorem j6z (h1 : P.num < 0) (h2 : ¬ S.num < 0) : z7q P S = -1 := by
 rw [q5k]
 have p1 : (0 : Int) < S.den := by have := S.den_pos; omega
 have p2 : (0 : Int) < P.den := by have := P.den_pos; omega
 have e1 := Int.mul_neg_of_neg_of_pos h1 p1
 have e2 := Int.mul_nonneg (Int.not_lt.1 h2) (Int.le_of_lt p2)
 exact Int.sign_eq_neg_one_of_neg (by omega)
theorem y4k (h1 : ¬ P.num < 0) (h2 : S.num < 0) : z7q P S = 1 := by
 have h := j6z h2 h1
 rw [u5j P S] at h
 omega
theorem z3h (x y : Nat) : -1 ≤ u3q x y ∧ u3q x y ≤ 1 := by
 unfold u3q; split
 ·
  omega
 ·
  split <;> omega

theorem g8x (hv : m3q w v b l m) (ht : m3q w t c l2 m2) (h1 : l.length + m.length ≤ 4096) (h2 : l2.length + m2.length ≤ 4096) :
  Calls Tryz.prog 66 #[v, t] w fun e w' => e = .returned (.int .i64 (z7q (v1q b l m) (v1q c l2 m2))) ∧ Below w.heap.size w w' := by
 have HV := hdd hv
 have HT := hdd ht
 obtain ⟨u, d, rfl, hu, hd⟩ := hv
 obtain ⟨ua, un, uc, hue⟩ := hu.form
 subst hue
 obtain ⟨da, dn, dc, hde⟩ := hd.form
 subst hde
 obtain ⟨u2, d2, rfl, hu2, hd2⟩ := ht
 obtain ⟨va, vn, vc, hve⟩ := hu2.form
 subst hve
 obtain ⟨ea, en, ec, hee⟩ := hd2.form
 subst hee
 obtain ⟨w1, hw1⟩ := qx (((w.alloc (Obj.cells #[.bool b, .slice ua un uc, .slice da dn dc] 43)).alloc (Obj.cells #[.bool c, .slice va vn vc, .slice ea en ec] 43)))
 have HB1 : Hi (Below w.heap.size w w1) := hdd (by rw [hw1]; exact ((qb).alloc qm _).alloc (by simp) _)
 have HX : Hi (w1.heap[w.heap.size]? = some (.cells #[.bool b, .slice ua un uc, .slice da dn dc] 43 (0, 0))) := hdd (by rw [hw1]; exact heap_alloc2_old w _ _)
 have HY : Hi (w1.heap[w.heap.size + 1]? = some (.cells #[.bool c, .slice va vn vc, .slice ea en ec] 43 (0, 0))) := hdd (by rw [hw1]; exact heap_alloc2_new w _ _)
 have HW1 := hdd hw1.symm
 clear hw1
 have LP : Hi (j5q (v1q b l m) ≤ 4096) := hdd (p3q hu.ws hd.ws)
 have LS : Hi (j5q (v1q c l2 m2) ≤ 4096) := hdd (p3q hu2.ws hd2.ws)
 have KF1 := hdd (fun w' (hb : Below w1.heap.size w1 w') => e0q (w := w') (HV.o.below (q0q HB1.o hb)) h1)
 have KF2 := hdd (fun w' (hb : Below w1.heap.size w1 w') => e0q (w := w') (HT.o.below (q0q HB1.o hb)) h2)
 obtain ⟨P, hP⟩ := qx (v1q b l m)
 obtain ⟨S, hS⟩ := qx (v1q c l2 m2)
 rw [← hP, ← hS]
 rw [← hP] at LP KF1
 rw [← hS] at LS KF2
 clear hP hS h1 h2 hu hd hu2 hd2
 obtain ⟨sg, hsg⟩ := qx (z7q P S)
 have HSG := hdd hsg
 rw [← hsg]
 clear hsg
 have RX := hdd (q1q HX.o)
 have RY := hdd (q1q HY.o)
 have FRX := hdd (s8q HX.o)
 have FRY := hdd (s8q HY.o)
 have hz1 := Below.refl w1.heap.size w1
 have x0 := RX.o 0 _ rfl _ hz1
 have x1 := RX.o 1 _ rfl _ hz1
 have x2 := RX.o 2 _ rfl _ hz1
 have y0 := RY.o 0 _ rfl _ hz1
 have y1 := RY.o 1 _ rfl _ hz1
 have y2 := RY.o 2 _ rfl _ hz1
 have hz0 : Below w1.heap.size w1 w1.drew := q5q qb 1
 go_enter Tryz.func66, Tryz.ntmps66
 go_wp2_with fail
 rw [HW1.o]
 go_cut [4] (fun ev wr => ev = .int .i64 0 ∧ ∃ (a11 : Option Addr) (n11 c11 : Nat) (i11 : Option Addr) (j11 k11 : Nat) (a12 : Option Addr) (n12 c12 : Nat) (i12 : Option Addr) (j12 k12 : Nat), Hi (wr.heap[w.heap.size]? = some (.cells #[.bool (decide (P.num < 0)), .slice a11 n11 c11, .slice i11 j11 k11] 43 (0, 0))) ∧ Hi (wr.heap[w.heap.size + 1]? = some (.cells #[.bool (decide (S.num < 0)), .slice a12 n12 c12, .slice i12 j12 k12] 43 (0, 0))) ∧ Hi (j3q wr (.agg #[Value.bool (decide (P.num < 0)), Value.slice a11 n11 c11, Value.slice i11 j11 k11]) P) ∧ Hi (j3q wr (.agg #[Value.bool (decide (S.num < 0)), Value.slice a12 n12 c12, Value.slice i12 j12 k12]) S) ∧ Hi (Below w.heap.size w wr))
 case first =>
  go_region_with (first | (go_at_call_of 59 (Value.slice ua un uc); refine (KF1.o _ hz0).mono ?_; rintro en11 w11 ⟨⟨v11, rfl, f11⟩, hb11⟩; obtain ⟨a11, n11, c11, i11, j11, k11, hq11⟩ := q8q f11; subst hq11; have hz11 := q0q hz0 hb11; have y0 := RY.o 0 _ rfl _ hz11; have y1 := RY.o 1 _ rfl _ hz11; have y2 := RY.o 2 _ rfl _ hz11) | (go_at_call_of 59 (Value.slice va vn vc); refine (KF2.o _ hz11).mono ?_; rintro en12 w12 ⟨⟨v12, rfl, f12⟩, hb12⟩; obtain ⟨a12, n12, c12, i12, j12, k12, hq12⟩ := q8q f12; subst hq12; have hz12 := q0q hz11 hb12; have x0 := RX.o 0 _ rfl _ hz12; have xf0 := FRX.o 0 _ hz12; have x1 := RX.o 1 _ rfl _ hz12; have xf1 := FRX.o 1 _ hz12; have x2 := RX.o 2 _ rfl _ hz12; have xf2 := FRX.o 2 _ hz12; have y0 := RY.o 0 _ rfl _ hz12; have yf0 := FRY.o 0 _ hz12; have y1 := RY.o 1 _ rfl _ hz12; have yf1 := FRY.o 1 _ hz12; have y2 := RY.o 2 _ rfl _ hz12; have yf2 := FRY.o 2 _ hz12))
  all_goals
   go_wp2_with fail
   go_meet
  all_goals
   have hS := v8j (W := _) ((hz12.block _ (lt_of_block HX.o)).trans HX.o) ((hz12.block _ (lt_of_block HY.o)).trans HY.o) (f11.below hb12) f12 (q0q HB1.o hz12) qm rfl
   exact ⟨rfl, _, _, _, _, _, _, _, _, _, _, _, _, hdd hS.1, hdd hS.2.1, hdd hS.2.2.1, hdd hS.2.2.2.1, hdd hS.2.2.2.2.1⟩
 case rest =>
  obtain ⟨w4, rfl⟩ : ∃ w8 : World, w8 = wc := ⟨_, rfl⟩
  obtain ⟨rfl, a11, n11, c11, i11, j11, k11, a12, n12, c12, i12, j12, k12, HX4, HY4, HFA, HFB, HW4⟩ := hcut
  obtain ⟨bp, hbp⟩ := qx (decide (P.num < 0))
  obtain ⟨bs, hbs⟩ := qx (decide (S.num < 0))
  have HIA : Hi (IsW w4 (.slice a11 n11 c11) (q2q P.num.natAbs) ∧ IsW w4 (.slice i11 j11 k11) (q2q P.den)) := hdd (by
   obtain ⟨u, d, he, hu, hd⟩ := HFA.o
   simp only [Value.agg.injEq, Array.mk.injEq, List.cons.injEq, and_true, true_and] at he
   obtain ⟨rfl, rfl⟩ := he
   exact ⟨hu, hd⟩)
  have HIB : Hi (IsW w4 (.slice a12 n12 c12) (q2q S.num.natAbs) ∧ IsW w4 (.slice i12 j12 k12) (q2q S.den)) := hdd (by
   obtain ⟨u, d, he, hu, hd⟩ := HFB.o
   simp only [Value.agg.injEq, Array.mk.injEq, List.cons.injEq, and_true, true_and] at he
   obtain ⟨rfl, rfl⟩ := he
   exact ⟨hu, hd⟩)
  rw [← hbp] at HX4
  rw [← hbs] at HY4
  have HBP := hdd hbp
  have HBS := hdd hbs
  clear x0 x1 x2 y0 y1 y2 hz0 hz1 RX RY FRX FRY KF1 KF2 HFA HFB hbp hbs
  have RX := hdd (q1q HX4.o)
  have RY := hdd (q1q HY4.o)
  have hz1 := Below.refl w4.heap.size w4
  have x0 := RX.o 0 _ rfl _ hz1
  have x1 := RX.o 1 _ rfl _ hz1
  have x2 := RX.o 2 _ rfl _ hz1
  have y0 := RY.o 0 _ rfl _ hz1
  have y1 := RY.o 1 _ rfl _ hz1
  have y2 := RY.o 2 _ rfl _ hz1
  by_cases hb : bp = bs
  ·
   have t0 : (bp == bs) = true := by simpa using hb
   have t1 : (bp != bs) = false := by simpa using hb
   obtain ⟨o, ho⟩ := qx (u3q (P.num.natAbs * S.den) (S.num.natAbs * P.den))
   have HO : Hi ((if bp = true then -o else o) = sg ∧ -1 ≤ o ∧ o ≤ 1) := hdd (by
    refine ⟨?_, by rw [ho]; exact (z3h _ _).1, by rw [ho]; exact (z3h _ _).2⟩
    rw [HSG.o, ho]
    by_cases h : P.num < 0
    ·
     have h2 : S.num < 0 := of_decide_eq_true (by rw [← HBS.o, ← hb, HBP.o]; exact decide_eq_true h)
     rw [HBP.o, if_pos (decide_eq_true h)]
     exact y4w h h2
    ·
     have h2 : ¬ S.num < 0 := of_decide_eq_false (by rw [← HBS.o, ← hb, HBP.o]; exact decide_eq_false h)
     rw [HBP.o, if_neg (by simpa using h)]
     exact y4h h h2)
   have K1 := hdd (fun w' (hb : Below w4.heap.size w4 w') => a3q (w := w') (HIA.o.1.below hb) (HIB.o.2.below hb) (by have := LP.o; have := LS.o; unfold j5q at *; omega))
   have K2 := hdd (fun w' (hb : Below w4.heap.size w4 w') => a3q (w := w') (HIB.o.1.below hb) (HIA.o.2.below hb) (by have := LP.o; have := LS.o; unfold j5q at *; omega))
   have K3 := hdd (fun w' x y (h : IsW w' x (q2q (P.num.natAbs * S.den))) (k : IsW w' y (q2q (S.num.natAbs * P.den))) => q0j (w := w') h k)
   rw [← ho] at K3
   clear hb ho
   have hz0 : Below w4.heap.size w4 w4.drew := q5q qb 1
   go_wp2_with fail
   go_region_held3 (fun w' => w'.cell? ⟨w.heap.size, 0, none⟩ = some (.bool bp) ∧ w'.cell? ⟨w.heap.size, 1, none⟩ = some (.slice a11 n11 c11) ∧ w'.cell? ⟨w.heap.size, 2, none⟩ = some (.slice i11 j11 k11) ∧ w'.cell? ⟨w.heap.size + 1, 0, none⟩ = some (.bool bs) ∧ w'.cell? ⟨w.heap.size + 1, 1, none⟩ = some (.slice a12 n12 c12) ∧ w'.cell? ⟨w.heap.size + 1, 2, none⟩ = some (.slice i12 j12 k12))
    (((try dsimp only); refine ⟨?_, ?_, ?_, ?_, ?_, ?_⟩ <;> (first | exact RX.o _ _ rfl _ (by assumption) | exact RY.o _ _ rfl _ (by assumption) | go_keep)))
    (first | (go_at_call_of 95 (Value.slice a11 n11 c11); refine (K1.o _ hz0).mono ?_; rintro en5 w5 ⟨⟨r5, rfl, hr5, ho5⟩, hb5⟩; obtain ⟨a5, n5, c5, he5⟩ := hr5.form; subst he5; have hz5 := q0q hz0 hb5) | (go_at_call 95; refine (K2.o _ hz5).mono ?_; rintro en6 w6 ⟨⟨r6, rfl, hr6, ho6⟩, hb6⟩; obtain ⟨a6, n6, c6, he6⟩ := hr6.form; subst he6; have hz6 := q0q hz5 hb6) | (go_at_call 94; refine (K3.o _ _ _ (hr5.below hb6) hr6).mono ?_; rintro en7 w7 ⟨rfl, n7, rfl⟩; have hz7 : Below w4.heap.size w4 (w6.drewN n7) := q5q hz6 n7))
   have z0 := RX.o 0 _ rfl _ hz7
   have z1 := RX.o 1 _ rfl _ hz7
   have z2 := RX.o 2 _ rfl _ hz7
   have HZ7 := hdd (q0q HW4.o hz7)
   cases bp with
   | true =>
    have hOO := HO.o
    rw [if_pos rfl] at hOO
    have ho1 := hOO.2.1
    have ho2 := hOO.2.2
    have e9 : IntKind.i64.wrap (-o) = -o := by rw [IntKind.wrap_i64]; omega
    have HE := hdd hOO.1
    clear hOO
    go_wp2_with fail
    go_ret
    exact ⟨by rw [← HE.o]; rfl, HZ7.o⟩
   | false =>
    have HE : Hi (o = sg) := hdd (by have h9 := HO.o.1; rwa [if_neg (by simp)] at h9)
    go_wp2_with fail
    go_ret
    exact ⟨by rw [← HE.o]; rfl, HZ7.o⟩
  ·
   have t0 : (bp == bs) = false := by simpa using hb
   have t1 : (bp != bs) = true := by simpa using hb
   have HBB := hdd hb
   clear hb
   cases bp with
   | true =>
    have HE : Hi (sg = -1) := hdd (by
     have h9 : P.num < 0 := of_decide_eq_true HBP.o.symm
     have h8 : bs = false := by have := HBB.o; cases bs <;> simp_all
     rw [HSG.o, j6z h9 (of_decide_eq_false (by rw [← HBS.o]; exact h8))])
    go_wp2_with fail
    go_ret
    exact ⟨by rw [HE.o]; rfl, HW4.o⟩
   | false =>
    have HE : Hi (sg = 1) := hdd (by
     have h9 : ¬ P.num < 0 := of_decide_eq_false HBP.o.symm
     have h8 : bs = true := by have := HBB.o; cases bs <;> simp_all
     rw [HSG.o, y4k h9 (of_decide_eq_true (by rw [← HBS.o]; exact h8))])
    go_wp2_with fail
    go_ret
    exact ⟨by rw [HE.o]; rfl, HW4.o⟩
end Go.Proofs.YtkkbmlkpgknhgaaGreat
namespace Go.Proofs.YtkkbmlkpgknhgaaGreat
open Go.RowKit
variable {P S q : Rat} {a i : Option Addr} {b c : Bool} {j k n x y : Nat} {l l2 m m2 : List Nat} {t u v : Value} {w : World} {z : Int}
theorem v6q.form {r : Value} (h : v6q n w r q) : ∃ b a n c i j k, r = .agg #[.bool b, .slice a n c, .slice i j k] := by
 obtain ⟨b, l, m, hr, -, -, -⟩ := h
 obtain ⟨a, n, c, i, j, k, e⟩ := x5h hr
 exact ⟨b, a, n, c, i, j, k, e⟩
def h0q (w : World) (q : Rat) (e : Ending) (w' : World) : Prop := (∃ r, e = .returned r ∧ j3q w' r q) ∧ Below w.heap.size w w'
theorem y8y {x y : Value} {Q : Rat} (hx : v6q n w x P) (hy : v6q n w y S) (hn : n ≤ 100) (hQ : P * S = Q) : Calls Tryz.prog 109 #[x, y] w (h0q w Q) := by
 subst hQ
 have l1 := hx.len
 have l2 := hy.len
 obtain ⟨b, l, m, h1, rfl, hl1, hm1⟩ := hx
 obtain ⟨b', l', m', h2, rfl, hl2, hm2⟩ := hy
 have h := g9v h1 h2 (by omega) (by omega)
 have hl := j1y (v1q b l m) (v1q b' l' m')
 rwa [i7q (by omega)] at h
theorem z8k {x : Value} (hx : v6q n w x P) (hn : n ≤ 100) : Calls Tryz.prog 48 #[x] w fun e w' => e = .returned (.int .i64 (z7q P 0)) ∧ Below w.heap.size w w' := by
 obtain ⟨b, l, m, h1, rfl, hl1, hm1⟩ := hx
 exact v7v h1 (by omega)
end Go.Proofs.YtkkbmlkpgknhgaaGreat
