import Derived.Test.YtkkbmlkpgknhgaaGreatZ9
import Derived.Deep.DrawnRows
set_option maxRecDepth 100000
set_option maxHeartbeats 16000000
namespace Go.Proofs.YtkkbmlkpgknhgaaGreat
open Go.RowKit
variable {b : Bool} {l m : List Nat} {v : Value} {w : World}
theorem z0v {a i : Option Addr} {n c j k : Nat} : ∀ v ∈ (#[Value.slice a n c, Value.slice i j k] : Array Value).toList, v.oneCell' = true := by
 intro v hv; simp at hv; rcases hv with rfl | rfl <;> rfl
theorem IsW.form_len (h : IsW w v l) : ∃ a n c, v = .slice a n c ∧ n = l.length := by
 obtain ⟨a, c, rfl, _⟩ := h
 exact ⟨a, _, c, rfl, rfl⟩

theorem j7k {u : Value} {x y : Nat} (hu : IsW w u (q2q x)) (hv : IsW w v (q2q y)) (hlx : (q2q x).length < 1073741824) (hly : (q2q y).length < 1073741824) :
  Calls Tryz.prog 115 #[u, v] w fun e w' => (∃ r, e = .returned r ∧ IsW w' r (q2q (Nat.gcd x y))) ∧ Below w.heap.size w w' := by
 obtain ⟨G, hG⟩ := qx (Nat.gcd x y)
 have HU := hdd hu
 have HV := hdd hv
 have HLX0 := hdd hlx
 have HLY0 := hdd hly
 rw [← hG]
 have HG0 := hdd hG
 obtain ⟨ua, un, uc, hue⟩ := hu.form
 subst hue
 obtain ⟨va, vn, vc, hve⟩ := hv.form
 subst hve
 clear hu hv hlx hly hG
 go_enter Tryz.func115, Tryz.ntmps115
 go_wp2_with fail
 go_loopg [0, 1] y (fun y1 av bv wr => ∃ x1 : Nat, IsW wr av (q2q x1) ∧ IsW wr bv (q2q y1) ∧ Below w.heap.size w wr ∧ Hi ((q2q x1).length < 1073741824) ∧ Hi ((q2q y1).length < 1073741824) ∧ Hi (Nat.gcd x1 y1 = G))
 case atStart => exact ⟨x, HU.o, HV.o, Below.refl _ _, HLX0, HLY0, hdd HG0.o.symm⟩
 case round =>
  obtain ⟨x1, ha, hb, hw, HLX, HLY, HG⟩ := hrel
  have HA := hdd ha
  have HB := hdd hb
  have HW := hdd hw
  obtain ⟨a1, la, ca, rfl, hla⟩ := ha.form_len
  obtain ⟨a2, lb, cb, rfl, hlb⟩ := hb.form_len
  have HLA := hdd hla
  have HLB := hdd hlb
  clear ha hb hw hla hlb
  by_cases h2 : 2 < lb
  ·
   have t0 : decide ((2 : Int) < (lb : Int)) = true := by simp; omega
   have HY0 : Hi (0 < gk) := hdd (by
    rcases Nat.eq_zero_or_pos gk with h | h
    ·
     have h9 := HLB.o; rw [h, y7q] at h9; simp at h9; omega
    ·
     exact h)
   have HK := hdd (j4k HA.o HB.o HY0.o HLX.o)
   go_wp2_with fail
   refine HK.o.mono ?_
   rintro en w5 ⟨⟨qv, rv, rfl, hq5, hr5⟩, hb5⟩
   obtain ⟨qa, qn, qc, hqe⟩ := hq5.form
   subst hqe
   obtain ⟨ra, rn, rc, hre⟩ := hr5.form
   subst hre
   have HR5 := hdd hr5
   have HB5 := hdd hb5
   clear hq5 hr5 hb5 HK
   go_wp2_with ((with_reducible refine j9q ?_); refine q6q rfl _ _ _ rfl w5.heap.size rfl _ rfl _ _ (heap_alloc_new _ _) q6j rfl z0v ?_; intro w6 h6 hon6; refine y0q ?_)
   have hb6 : Below w5.heap.size w5 w6 := q4q ((qb).alloc qm _) hon6 qm
   have HR6 := hdd (HR5.o.below hb6)
   have HB6 := hdd (HB.o.below (q0q HB5.o hb6))
   have HW6 := hdd (q0q HW.o (q0q HB5.o hb6))
   have s0 := q1q h6 0 _ rfl _ qb
   have s1 := q1q h6 1 _ rfl _ qb
   clear h6 hon6 hb6
   refine z2q ?_
   go_wp2_with fail
   go_quiet (fail)
   go_wp2_with fail
   go_roundg (x1 % gk)
   case measure => exact Nat.mod_lt _ HY0.o
   case rel => exact ⟨gk, HB6.o.drewN _, HR6.o.drewN _, q5q HW6.o _, HLY, hdd (Nat.lt_of_le_of_lt (z6q (Nat.le_of_lt (Nat.mod_lt x1 HY0.o))) HLY.o), hdd (by rw [← HG.o, Nat.gcd_comm gk, ← Nat.gcd_rec, Nat.gcd_comm])⟩
  ·
   have t0 : decide ((2 : Int) < (lb : Int)) = false := by simp; omega
   by_cases h3 : 2 < la
   ·
    have t1 : decide ((2 : Int) < (la : Int)) = true := by simp; omega
    by_cases h4 : 0 < lb
    ·
     have t2 : decide ((0 : Int) < (lb : Int)) = true := by simp; omega
     have HY0 : Hi (0 < gk) := hdd (by
      rcases Nat.eq_zero_or_pos gk with h | h
      ·
       have h9 := HLB.o; rw [h, y7q] at h9; simp at h9; omega
      ·
       exact h)
     have HK := hdd (j4k HA.o HB.o HY0.o HLX.o)
     go_wp2_with fail
     refine HK.o.mono ?_
     rintro en w5 ⟨⟨qv, rv, rfl, hq5, hr5⟩, hb5⟩
     obtain ⟨qa, qn, qc, hqe⟩ := hq5.form
     subst hqe
     obtain ⟨ra, rn, rc, hre⟩ := hr5.form
     subst hre
     have HR5 := hdd hr5
     have HB5 := hdd hb5
     clear hq5 hr5 hb5 HK
     go_wp2_with ((with_reducible refine j9q ?_); refine q6q rfl _ _ _ rfl w5.heap.size rfl _ rfl _ _ (heap_alloc_new _ _) q6j rfl z0v ?_; intro w6 h6 hon6; refine y0q ?_)
     have hb6 : Below w5.heap.size w5 w6 := q4q ((qb).alloc qm _) hon6 qm
     have HR6 := hdd (HR5.o.below hb6)
     have HB6 := hdd (HB.o.below (q0q HB5.o hb6))
     have HW6 := hdd (q0q HW.o (q0q HB5.o hb6))
     have s0 := q1q h6 0 _ rfl _ qb
     have s1 := q1q h6 1 _ rfl _ qb
     clear h6 hon6 hb6
     refine z2q ?_
     go_wp2_with fail
     go_quiet (fail)
     go_wp2_with fail
     go_roundg (x1 % gk)
     case measure => exact Nat.mod_lt _ HY0.o
     case rel => exact ⟨gk, HB6.o.drewN _, HR6.o.drewN _, q5q HW6.o _, HLY, hdd (Nat.lt_of_le_of_lt (z6q (Nat.le_of_lt (Nat.mod_lt x1 HY0.o))) HLY.o), hdd (by rw [← HG.o, Nat.gcd_comm gk, ← Nat.gcd_rec, Nat.gcd_comm])⟩
    ·
     have t2 : decide ((0 : Int) < (lb : Int)) = false := by simp; omega
     have HY0 : Hi (gk = 0) := hdd (by
      rcases Nat.eq_zero_or_pos gk with h | h
      ·
       exact h
      ·
       have h9 := HLB.o; rw [k1q (by omega)] at h9; simp at h9; omega)
     have hlb0 : ((lb : Int) == 0) = true := by simp; omega
     go_wp2_with fail
     go_ret
     exact ⟨⟨_, rfl, by rw [← HG.o, HY0.o, Nat.gcd_zero_right]; exact HA.o⟩, HW.o⟩
   ·
    have t1 : decide ((2 : Int) < (la : Int)) = false := by simp; omega
    by_cases h4 : 0 < lb
    ·
     have hlb0 : ((lb : Int) == 0) = false := by simp; omega
     have HY0 : Hi (0 < gk) := hdd (by
      rcases Nat.eq_zero_or_pos gk with h | h
      ·
       have h9 := HLB.o; rw [h, y7q] at h9; simp at h9; omega
      ·
       exact h)
     have HX2 : Hi ((q2q x1).length ≤ 2) := hdd (by have := HLA.o; omega)
     have HY2 : Hi ((q2q gk).length ≤ 2) := hdd (by have := HLB.o; omega)
     have e2 : (4294967296 : Nat) ^ 2 = 18446744073709551616 := by decide
     have HXB : Hi (x1 < 18446744073709551616) := hdd (by have := x0q.1 HX2.o; rwa [e2] at this)
     have HYB : Hi (gk < 18446744073709551616) := hdd (by have := x0q.1 HY2.o; rwa [e2] at this)
     clear e2
     obtain ⟨wb, rfl⟩ : ∃ wb : World, wb = wr := ⟨_, rfl⟩
     go_wp2_with fail
     refine (y8h HA.o HX2.o).mono ?_
     rintro en w2 ⟨rfl, rfl⟩
     go_wp2_with fail
     refine (y8h HB.o HY2.o).mono ?_
     rintro en w2 ⟨rfl, rfl⟩
     go_wp2_with fail
     go_loopw [6, 7] (fun xv yv wr => ∃ p q n : Nat, xv = .int .u64 p ∧ yv = .int .u64 q ∧ p < 18446744073709551616 ∧ q < 18446744073709551616 ∧ Hi (Nat.gcd p q = G) ∧ wr = wb.drewN n) (fun _ yv _ => (intOf yv).toNat)
     case atStart => exact ⟨x1, gk, _, rfl, rfl, HXB.o, HYB.o, HG, by first | exact rfl | exact (World.drewN_zero _).symm⟩
     case round =>
      obtain ⟨p, q, n, rfl, rfl, hp, hq, HPQ, rfl⟩ := hrel
      by_cases hq0 : 0 < q
      ·
       have t0 : decide ((0 : Int) < (q : Int)) = true := by simp; omega
       have t1 : ((q : Int) == 0) = false := by simp; omega
       go_wp2_with fail
       go_quiet (fail)
       go_wp2_with fail
       go_roundw
       case rel => exact ⟨q, p % q, _, rfl, by go_num, hq, Nat.lt_trans (Nat.mod_lt p hq0) hq, hdd (by rw [← HPQ.o, Nat.gcd_comm q, ← Nat.gcd_rec, Nat.gcd_comm]), World.drewN_drewN _ _ _⟩
       case measure => have := Nat.mod_lt p hq0; simp [intOf]; omega
      ·
       have t0 : decide ((0 : Int) < (q : Int)) = false := by simp; omega
       have HQ0 : Hi (q = 0) := hdd (by omega)
       go_wp2_with fail
       refine (z8h p hp).mono ?_
       rintro en w7 ⟨⟨r7, rfl, hr7, -⟩, hb7⟩
       have h9 := HPQ.o
       rw [HQ0.o, Nat.gcd_zero_right] at h9
       rw [h9] at hr7
       have HR7 := hdd hr7
       have HB7 := hdd (q0q (q5q HW.o _) hb7)
       clear h9 hr7 hb7
       go_wp2_with fail
       go_ret
       exact ⟨⟨_, rfl, HR7.o⟩, HB7.o⟩
    ·
     have HY0 : Hi (gk = 0) := hdd (by
      rcases Nat.eq_zero_or_pos gk with h | h
      ·
       exact h
      ·
       have h9 := HLB.o; rw [k1q (by omega)] at h9; simp at h9; omega)
     have hlb0 : ((lb : Int) == 0) = true := by simp; omega
     go_wp2_with fail
     go_ret
     exact ⟨⟨_, rfl, by rw [← HG.o, HY0.o, Nat.gcd_zero_right]; exact HA.o⟩, HW.o⟩
theorem q2y (h : IsW w v l) : ∃ a n c, v = .slice a n c ∧ n = l.length ∧ (0 < n → ∃ b off, a = some ⟨b, off, none⟩ ∧ ∀ j, j < n → ∀ w', Below w.heap.size w w' → w'.cell? ⟨b, off + j, none⟩ = some (.int .u32 (nth l j))) := by
 obtain ⟨a, c, rfl, h1⟩ := x7w h
 refine ⟨a, _, c, rfl, rfl, fun hp => ?_⟩
 obtain ⟨b, off, rfl, f⟩ := h1 hp
 exact ⟨b, off, rfl, fun j hj w' hb => q3q hb (f j hj)⟩
theorem s1q (h : nth l (l.length - 1) ≠ 0) : n8q l := by
 have h9 := j7y (l := l) (k := l.length) qm (Or.inr h)
 rwa [List.take_length] at h9
theorem z6y (h : m.length = 0) : v4q b l m = false := by
 have : b8q m = true := by simp [b8q, h]
 unfold v4q; rw [this]; simp
theorem v2h (h0 : m.length ≠ 0) (h : nth m (m.length - 1) = 0) : v4q b l m = false := by
 have : b1q m = false := by
  unfold b1q
  simp only [decide_eq_false_iff_not]
  intro hn
  exact o8q hn (fun e => h0 (by rw [e]; rfl)) h
 unfold v4q; rw [this]; simp
theorem y8j (h0 : l.length ≠ 0) (h : nth l (l.length - 1) = 0) : v4q b l m = false := by
 have : b1q l = false := by
  unfold b1q
  simp only [decide_eq_false_iff_not]
  intro hn
  exact o8q hn (fun e => h0 (by rw [e]; rfl)) h
 unfold v4q; rw [this]; simp
theorem v3z (hs : l.length + m.length ≤ 4096) (h0 : l.length = 0) (hm0 : m.length ≠ 0) (hm : nth m (m.length - 1) ≠ 0) : v4q b l m = (!b && k7q (val m)) := by
 have hl : l = [] := List.eq_nil_of_length_eq_zero h0
 have h1 : b1q m = true := by unfold b1q; simpa using s1q hm
 have h2 : b8q m = false := by simp [b8q, hm0]
 have h3 : s3q l m = true := by simp [s3q, hs]
 have h4 : b1q l = true := by subst hl; unfold b1q; simp [n8q]
 have h5 : b8q l = true := by simp [b8q, h0]
 have h6 : val l = 0 := by subst hl; rfl
 unfold v4q; rw [h1, h2, h3, h4, h5, h6, Nat.gcd_zero_left]; simp
theorem v3j (hs : l.length + m.length ≤ 4096) (h0 : l.length ≠ 0) (hl : nth l (l.length - 1) ≠ 0) (hm0 : m.length ≠ 0) (hm : nth m (m.length - 1) ≠ 0) : v4q b l m = k7q (Nat.gcd (val l) (val m)) := by
 have h1 : b1q m = true := by unfold b1q; simpa using s1q hm
 have h2 : b8q m = false := by simp [b8q, hm0]
 have h3 : s3q l m = true := by simp [s3q, hs]
 have h4 : b1q l = true := by unfold b1q; simpa using s1q hl
 have h5 : b8q l = false := by simp [b8q, h0]
 unfold v4q; rw [h1, h2, h3, h4, h5]; simp
theorem j1h (h : m.length = 1) : val m = nth m 0 := by
 match m, h with
 | [d], _ => simp [val, nth]
theorem g1w (hn : n8q m) (hw : Ws m) (h : m.length ≠ 1) : val m ≠ 1 := by
 intro e
 have h1 := r7q m hw hn
 rw [e, a1q] at h1
 exact h (by rw [← h1]; rfl)

theorem x6w (hv : m3q w v b l m) (hs : l.length + m.length ≤ 4096) :
  Calls Tryz.prog 89 #[v] w fun e w' => e = .returned (.bool (v4q b l m)) ∧ Below w.heap.size w w' := by
 obtain ⟨u, d, rfl, hu, hd⟩ := hv
 have HU := hdd hu
 have HD := hdd hd
 obtain ⟨a1, la, c1, rfl, hla, k1⟩ := q2y hu
 obtain ⟨a2, lb, c2, rfl, hlb, k2⟩ := q2y hd
 obtain ⟨R, hR⟩ := qx (v4q b l m)
 have HR := hdd hR
 rw [← hR]
 have HLA := hdd hla
 have HLB := hdd hlb
 have HS := hdd hs
 rw [← hla, ← hlb] at hs
 obtain ⟨w1, hw1⟩ := qx (w.alloc (Obj.cells #[.bool b, .slice a1 la c1, .slice a2 lb c2] 43))
 have HB1 : Hi (Below w.heap.size w w1) := hdd (by rw [hw1]; exact (qb).alloc qm _)
 have hX : w1.heap[w.heap.size]? = some (.cells #[.bool b, .slice a1 la c1, .slice a2 lb c2] 43 (0, 0)) := by rw [hw1]; exact heap_alloc_new w _
 have x0 := q1q hX 0 _ rfl _ qb
 have x1 := q1q hX 1 _ rfl _ qb
 have x2 := q1q hX 2 _ rfl _ qb
 have HW1 := hdd hw1.symm
 have s1 : decide ((4096 : Int) < (la : Int)) = false := by simp; omega
 have s2 : decide ((4096 : Int) < (lb : Int)) = false := by simp; omega
 have s3 : decide ((4096 : Int) < (la : Int) + (lb : Int)) = false := by simp; omega
 have K1 := hdd k1
 have K2 := hdd k2
 have hla9 : la ≤ 4096 := by omega
 have hlb9 : lb ≤ 4096 := by omega
 clear hu hd hla hlb hR hw1 hX k1 k2 hs
 go_enter Tryz.func89, Tryz.ntmps89
 go_wp2_with fail
 rw [HW1.o]
 go_quiet (fail)
 by_cases h0 : lb = 0
 ·
  have t0 : ((lb : Int) == 0) = true := by simp; omega
  have HF : Hi (R = false) := hdd (by rw [HR.o]; exact z6y (by rw [← HLB.o]; exact h0))
  clear h0
  go_wp2_with fail
  go_ret
  exact ⟨by rw [HF.o]; rfl, q5q HB1.o _⟩
 ·
  have t0 : ((lb : Int) == 0) = false := by simp; omega
  have hlb0 : 0 < lb := by omega
  obtain ⟨b2, o2, rfl, f2⟩ := K2.o (by omega)
  have g2 := f2 (lb - 1) (by omega) _ HB1.o
  have g20 := f2 0 (by omega) _ HB1.o
  rw [Nat.add_zero] at g20
  obtain ⟨tm, htm⟩ := qx (nth m (lb - 1))
  rw [← htm] at g2
  have HTM := hdd htm
  clear htm f2
  by_cases hm0 : tm = 0
  ·
   have t1 : ((tm : Int) == 0) = true := by simp; omega
   have HF : Hi (R = false) := hdd (by rw [HR.o]; exact v2h (by rw [← HLB.o]; exact h0) (by rw [← HLB.o, ← HTM.o]; exact hm0))
   clear hm0 h0
   go_wp2_with fail
   go_ret
   exact ⟨by rw [HF.o]; rfl, q5q HB1.o _⟩
  ·
   have t1 : ((tm : Int) == 0) = false := by simp; omega
   have HM0 : Hi (m.length ≠ 0) := hdd (by rw [← HLB.o]; exact h0)
   have HM1 : Hi (nth m (m.length - 1) ≠ 0) := hdd (by rw [← HLB.o, ← HTM.o]; exact hm0)
   clear hm0 h0
   have HDM : Hi (q2q (val m) = m) := hdd (r7q m HD.o.ws (s1q HM1.o))
   obtain ⟨d0, hd0⟩ := qx (nth m 0)
   rw [← hd0] at g20
   have HD0 := hdd hd0
   clear hd0
   by_cases hl0 : la = 0
   ·
    have t2 : ((la : Int) == 0) = true := by simp; omega
    have HRZ : Hi (R = (!b && k7q (val m))) := hdd (by rw [HR.o]; exact v3z HS.o (by rw [← HLA.o]; exact hl0) HM0.o HM1.o)
    clear hl0
    cases b with
    | true =>
     have HF : Hi (R = false) := hdd (by rw [HRZ.o]; rfl)
     go_wp2_with fail
     go_ret
     exact ⟨by rw [HF.o]; rfl, q5q HB1.o _⟩
    | false =>
     by_cases hl1 : lb = 1
     ·
      have t3 : ((lb : Int) == 1) = true := by simp; omega
      have HF : Hi (R = k7q d0) := hdd (by rw [HRZ.o, j1h (by rw [← HLB.o]; exact hl1), ← HD0.o]; rfl)
      by_cases hd1 : d0 = 1
      ·
       have t4 : ((d0 : Int) == 1) = true := by simp; omega
       have HF2 : Hi (R = true) := hdd (by rw [HF.o, hd1]; rfl)
       clear hl1 hd1
       go_wp2_with fail
       go_ret
       exact ⟨by rw [HF2.o]; rfl, q5q HB1.o _⟩
      ·
       have t4 : ((d0 : Int) == 1) = false := by simp; omega
       have HF2 : Hi (R = false) := hdd (by rw [HF.o]; simp [k7q, hd1])
       clear hl1 hd1
       go_wp2_with fail
       go_ret
       exact ⟨by rw [HF2.o]; rfl, q5q HB1.o _⟩
     ·
      have t3 : ((lb : Int) == 1) = false := by simp; omega
      have HF2 : Hi (R = false) := hdd (by rw [HRZ.o]; have := g1w (s1q HM1.o) HD.o.ws (by rw [← HLB.o]; exact hl1); simp [k7q, this])
      clear hl1
      go_wp2_with fail
      go_ret
      exact ⟨by rw [HF2.o]; rfl, q5q HB1.o _⟩
   ·
    have t2 : ((la : Int) == 0) = false := by simp; omega
    have hla0 : 0 < la := by omega
    obtain ⟨b1, o1, rfl, f1⟩ := K1.o (by omega)
    have g1 := f1 (la - 1) (by omega) _ HB1.o
    obtain ⟨tl, htl⟩ := qx (nth l (la - 1))
    rw [← htl] at g1
    have HTL := hdd htl
    clear htl f1
    by_cases hn0 : tl = 0
    ·
     have t3 : ((tl : Int) == 0) = true := by simp; omega
     have HF : Hi (R = false) := hdd (by rw [HR.o]; exact y8j (by rw [← HLA.o]; exact hl0) (by rw [← HLA.o, ← HTL.o]; exact hn0))
     clear hn0 hl0
     go_wp2_with fail
     go_ret
     exact ⟨by rw [HF.o]; rfl, q5q HB1.o _⟩
    ·
     have t3 : ((tl : Int) == 0) = false := by simp; omega
     have HL1 : Hi (nth l (l.length - 1) ≠ 0) := hdd (by rw [← HLA.o, ← HTL.o]; exact hn0)
     have HRS : Hi (R = k7q (Nat.gcd (val l) (val m))) := hdd (by rw [HR.o]; exact v3j HS.o (by rw [← HLA.o]; exact hl0) HL1.o HM0.o HM1.o)
     have HDL : Hi (q2q (val l) = l) := hdd (r7q l HU.o.ws (s1q HL1.o))
     clear hn0 hl0
     by_cases hl1 : lb = 1
     ·
      have t4 : ((lb : Int) == 1) = true := by simp; omega
      by_cases hd1 : d0 = 1
      ·
       have t5 : ((d0 : Int) == 1) = true := by simp; omega
       have HF2 : Hi (R = true) := hdd (by rw [HRS.o, j1h (m := m) (by rw [← HLB.o]; exact hl1), ← HD0.o, hd1, Nat.gcd_one_right]; rfl)
       clear hl1 hd1
       go_wp2_with fail
       go_ret
       exact ⟨by rw [HF2.o]; rfl, q5q HB1.o _⟩
      ·
       have t5 : ((d0 : Int) == 1) = false := by simp; omega
       clear hl1 hd1
       have HCM := hdd (j7k (w := w1.drewN nq) (x := val l) (y := val m) (by rw [HDL.o]; exact (HU.o.below HB1.o).drewN _) (by rw [HDM.o]; exact (HD.o.below HB1.o).drewN _) (by rw [HDL.o]; have := HS.o; omega) (by rw [HDM.o]; have := HS.o; omega))
       go_wp2_with fail
       refine HCM.o.mono ?_
       rintro en5 w5 ⟨⟨r5, rfl, hr5⟩, hb5⟩
       obtain ⟨gg, hgg⟩ := qx (Nat.gcd (val l) (val m))
       rw [← hgg] at hr5
       have HRG : Hi (R = k7q gg) := hdd (by rw [hgg]; exact HRS.o)
       have HB5 := hdd (q0q (q5q HB1.o _) hb5)
       clear hgg hb5 HCM
       by_cases hg1 : gg = 1
       ·
        have HF : Hi (R = true) := hdd (by rw [HRG.o, hg1]; rfl)
        rw [hg1, a1q] at hr5
        obtain ⟨gb, go9, gc, rfl, hgc⟩ := y7z hr5
        have g5 := hgc _ qb
        clear hg1 hr5 hgc
        go_wp2_with fail
        go_ret
        exact ⟨by rw [HF.o]; rfl, HB5.o⟩
       ·
        have HF : Hi (R = false) := hdd (by rw [HRG.o]; simp [k7q, hg1])
        obtain ⟨ga, gn, gc, rfl, hgn, hgc⟩ := q2y hr5
        by_cases hn1 : gn = 1
        ·
         obtain ⟨gb, go9, rfl, hgd⟩ := hgc (by omega)
         have g5 := hgd 0 (by omega) _ qb
         rw [Nat.add_zero] at g5
         have hd1 : nth (q2q gg) 0 ≠ 1 := by
          have h9 := j1h (m := q2q gg) (by omega)
          rw [j6q] at h9
          rw [← h9]; exact hg1
         obtain ⟨dg, hdg⟩ := qx (nth (q2q gg) 0)
         rw [← hdg] at g5 hd1
         have t9 : ((dg : Int) == 1) = false := by simp; omega
         subst hn1
         clear hg1 hr5 hgc hgd hdg hd1 hgn
         go_wp2_with fail
         go_ret
         exact ⟨by rw [HF.o]; rfl, HB5.o⟩
        ·
         have t9 : ((gn : Int) == 1) = false := by simp; omega
         clear hg1 hr5 hgc hgn hn1
         go_wp2_with fail
         go_ret
         exact ⟨by rw [HF.o]; rfl, HB5.o⟩
     ·
      have t4 : ((lb : Int) == 1) = false := by simp; omega
      clear hl1
      have HCM := hdd (j7k (w := w1.drewN nq) (x := val l) (y := val m) (by rw [HDL.o]; exact (HU.o.below HB1.o).drewN _) (by rw [HDM.o]; exact (HD.o.below HB1.o).drewN _) (by rw [HDL.o]; have := HS.o; omega) (by rw [HDM.o]; have := HS.o; omega))
      go_wp2_with fail
      refine HCM.o.mono ?_
      rintro en5 w5 ⟨⟨r5, rfl, hr5⟩, hb5⟩
      obtain ⟨gg, hgg⟩ := qx (Nat.gcd (val l) (val m))
      rw [← hgg] at hr5
      have HRG : Hi (R = k7q gg) := hdd (by rw [hgg]; exact HRS.o)
      have HB5 := hdd (q0q (q5q HB1.o _) hb5)
      clear hgg hb5 HCM
      by_cases hg1 : gg = 1
      ·
       have HF : Hi (R = true) := hdd (by rw [HRG.o, hg1]; rfl)
       rw [hg1, a1q] at hr5
       obtain ⟨gb, go9, gc, rfl, hgc⟩ := y7z hr5
       have g5 := hgc _ qb
       clear hg1 hr5 hgc
       go_wp2_with fail
       go_ret
       exact ⟨by rw [HF.o]; rfl, HB5.o⟩
      ·
       have HF : Hi (R = false) := hdd (by rw [HRG.o]; simp [k7q, hg1])
       obtain ⟨ga, gn, gc, rfl, hgn, hgc⟩ := q2y hr5
       by_cases hn1 : gn = 1
       ·
        obtain ⟨gb, go9, rfl, hgd⟩ := hgc (by omega)
        have g5 := hgd 0 (by omega) _ qb
        rw [Nat.add_zero] at g5
        have hd1 : nth (q2q gg) 0 ≠ 1 := by
         have h9 := j1h (m := q2q gg) (by omega)
         rw [j6q] at h9
         rw [← h9]; exact hg1
        obtain ⟨dg, hdg⟩ := qx (nth (q2q gg) 0)
        rw [← hdg] at g5 hd1
        have t9 : ((dg : Int) == 1) = false := by simp; omega
        subst hn1
        clear hg1 hr5 hgc hgd hdg hd1 hgn
        go_wp2_with fail
        go_ret
        exact ⟨by rw [HF.o]; rfl, HB5.o⟩
       ·
        have t9 : ((gn : Int) == 1) = false := by simp; omega
        clear hg1 hr5 hgc hgn hn1
        go_wp2_with fail
        go_ret
        exact ⟨by rw [HF.o]; rfl, HB5.o⟩
theorem z0j : Calls Tryz.prog 90 #[] w fun e w' => (∃ r, e = .returned r ∧ j3q w' r 0) ∧ Below w.heap.size w w' := by
 obtain ⟨w1, hw1, HB1, HR1⟩ := al1 w #[.bool false, .slice none 0 0, .slice none 0 0] 43
 have HW1 := hdd hw1.symm
 clear hw1
 go_enter Tryz.func90, Tryz.ntmps90
 go_wp2_with fail
 rw [HW1.o]
 refine y8x.mono ?_
 rintro en2 w2 ⟨⟨r2, rfl, hr2, -⟩, hb2⟩
 obtain ⟨a2, n2, c2, he2⟩ := hr2.form
 subst he2
 have HR2 := hdd hr2
 have HX2 : Hi (w2.heap[w.heap.size]? = some (.cells #[.bool false, .slice none 0 0, .slice none 0 0] 43 (0, 0))) := hdd ((hb2.block _ (lt_of_block HR1.o)).trans HR1.o)
 have HB2 := hdd (q0q HB1.o hb2)
 have r0 : w2.cell? ⟨w.heap.size, 0, none⟩ = some (Value.bool false) := by rw [cell_of_row _ _ _ _ _ _ HX2.o]; rfl
 have r1 : w2.cell? ⟨w.heap.size, 1, none⟩ = some (Value.slice none 0 0) := by rw [cell_of_row _ _ _ _ _ _ HX2.o]; rfl
 have r2 : w2.cell? ⟨w.heap.size, 2, none⟩ = some (Value.slice none 0 0) := by rw [cell_of_row _ _ _ _ _ _ HX2.o]; rfl
 have f0 := frozen_of_row _ _ 0 _ _ HX2.o
 have f1 := frozen_of_row _ _ 1 _ _ HX2.o
 have f2 := frozen_of_row _ _ 2 _ _ HX2.o
 clear hr2 hb2
 go_wp2_with fail
 have h9 := c1q (q := 0) HX2.o (u := Value.slice none 0 0) (d := Value.slice a2 n2 c2) (by show IsW w2 _ (q2q 0); rw [y7q]; exact IsW.nil _) HR2.o
 exact bodyPost_ret (results_cell_row rfl _ _ w.heap.size _ _ _ _ rfl (z5q HX2.o) Tryz.underlying43 rfl v0q) rfl ⟨⟨_, rfl, h9⟩, q4q HB2.o (q7q _ _ _ _ _) (by omega)⟩

theorem e0q (hv : m3q w v b l m) (hs : l.length + m.length ≤ 4096) :
  Calls Tryz.prog 59 #[v] w fun e w' => (∃ r, e = .returned r ∧ j3q w' r (v1q b l m)) ∧ Below w.heap.size w w' := by
 have HV := hdd hv
 obtain ⟨u, d, rfl, hu, hd⟩ := hv
 obtain ⟨ua, un, uc, hue⟩ := hu.form
 subst hue
 obtain ⟨da, dn, dc, hde⟩ := hd.form
 subst hde
 have HU := hdd hu
 have HD := hdd hd
 clear hu hd
 obtain ⟨w1, hw1, HB1, HX, HR⟩ := al2 w #[.bool b, .slice ua un uc, .slice da dn dc] 43 #[.bool false, .slice none 0 0, .slice none 0 0] 43
 have HW1 := hdd hw1.symm
 clear hw1
 have HK := hdd (x6w (HV.o.below HB1.o) hs)
 have x0 := q1q HX.o 0 _ rfl _ qb
 have x1 := q1q HX.o 1 _ rfl _ qb
 have x2 := q1q HX.o 2 _ rfl _ qb
 obtain ⟨R, hR⟩ := qx (v4q b l m)
 rw [← hR] at HK
 have HRR := hdd hR
 clear hR hs
 go_enter Tryz.func59, Tryz.ntmps59
 go_wp2_with fail
 rw [HW1.o]
 refine HK.o.mono ?_
 rintro en2 w2 ⟨rfl, hb2⟩
 clear x0 x1 x2
 have x0 := q1q HX.o 0 _ rfl _ hb2
 have x1 := q1q HX.o 1 _ rfl _ hb2
 have x2 := q1q HX.o 2 _ rfl _ hb2
 have HB2 := hdd (q0q HB1.o hb2)
 have HR2 : Hi (w2.heap[w.heap.size + 1]? = some (.cells #[.bool false, .slice none 0 0, .slice none 0 0] 43 (0, 0))) := hdd ((hb2.block _ (lt_of_block HR.o)).trans HR.o)
 clear hb2
 cases R with
 | true =>
  have r0 := q1q HR2.o 0 _ rfl _ qb
  have r1 := q1q HR2.o 1 _ rfl _ qb
  have r2 := q1q HR2.o 2 _ rfl _ qb
  have f0 := frozen_of_row _ _ 0 _ _ HR2.o
  have f1 := frozen_of_row _ _ 1 _ _ HR2.o
  have f2 := frozen_of_row _ _ 2 _ _ HR2.o
  have HRT := hdd (i0q HU.o.ws HD.o.ws HRR.o.symm)
  go_wp2_with fail
  have h9 := c1q (q := v1q b l m) HR2.o (u := Value.slice ua un uc) (d := Value.slice da dn dc) (by rw [← HRT.o.1]; exact HU.o.below HB2.o) (by rw [← HRT.o.2.1]; exact HD.o.below HB2.o)
  rw [← HRT.o.2.2.1] at h9
  exact bodyPost_ret (results_cell_row rfl _ _ (w.heap.size + 1) _ _ _ _ rfl (z5q HR2.o) Tryz.underlying43 rfl v0q) rfl ⟨⟨_, rfl, h9⟩, q4q HB2.o (q7q _ _ _ _ _) (by omega)⟩
 | false =>
  have HF : Hi (v1q b l m = 0) := hdd (by unfold v1q; rw [← HRR.o]; rfl)
  go_wp2_with fail
  refine z0j.mono ?_
  rintro en3 w3 ⟨⟨r3, rfl, f3⟩, hb3⟩
  obtain ⟨u3, d3, rfl, hu3, hd3⟩ := f3
  obtain ⟨a3, n3, c3, he3⟩ := hu3.form
  subst he3
  obtain ⟨i3, j3, k3, he4⟩ := hd3.form
  subst he4
  have HU3 := hdd hu3
  have HD3 := hdd hd3
  have HB3 := hdd (q0q HB2.o hb3)
  have HR3 : Hi (w3.heap[w.heap.size + 1]? = some (.cells #[.bool false, .slice none 0 0, .slice none 0 0] 43 (0, 0))) := hdd ((hb3.block _ (lt_of_block HR2.o)).trans HR2.o)
  have r0 := q1q HR3.o 0 _ rfl _ qb
  have r1 := q1q HR3.o 1 _ rfl _ qb
  have r2 := q1q HR3.o 2 _ rfl _ qb
  have f0 := frozen_of_row _ _ 0 _ _ HR3.o
  have f1 := frozen_of_row _ _ 1 _ _ HR3.o
  have f2 := frozen_of_row _ _ 2 _ _ HR3.o
  clear x0 x1 x2 hu3 hd3 hb3
  go_wp2_with fail
  have h9 := c1q (q := 0) HR3.o HU3.o HD3.o
  exact bodyPost_ret (results_cell_row rfl _ _ (w.heap.size + 1) _ _ _ _ rfl (z5q HR3.o) Tryz.underlying43 rfl v0q) rfl ⟨⟨_, rfl, by rw [HF.o]; exact h9⟩, q4q HB3.o (q7q _ _ _ _ _) (by omega)⟩
end Go.Proofs.YtkkbmlkpgknhgaaGreat
namespace Go.Proofs.YtkkbmlkpgknhgaaGreat
open Go.RowKit
attribute [local go_sem ↓] Go.wp_at_zero Go.wp_at_succ
variable {b : Bool} {l m : List Nat} {v : Value} {w : World}
theorem x5h {r : Value} (h : m3q w r b l m) : ∃ a n c i j k, r = .agg #[.bool b, .slice a n c, .slice i j k] := by
 obtain ⟨u, d, rfl, hu, hd⟩ := h
 obtain ⟨a, n, c, rfl⟩ := hu.form
 obtain ⟨i, j, k, rfl⟩ := hd.form
 exact ⟨a, n, c, i, j, k, rfl⟩

end Go.Proofs.YtkkbmlkpgknhgaaGreat
namespace Go.Proofs.YtkkbmlkpgknhgaaGreat
open Go.ChangeShapes Go.WideShapes Go.ChangeAt Go.RowKit
variable {b : Bool} {l m : List Nat} {v : Value} {w : World}
end Go.Proofs.YtkkbmlkpgknhgaaGreat
