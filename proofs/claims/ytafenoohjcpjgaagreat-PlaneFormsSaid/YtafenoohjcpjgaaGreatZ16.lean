/- Several texts in one: T2, L1. -/
import Derived.Test.YtafenoohjcpjgaaGreatZ15
import Derived.Deep.DrawnRows
/- The reference's words: the greatest common divisor. -/
namespace Go.Proofs.YtafenoohjcpjgaaGreat
open Go.RowKit

theorem two_one {a i : Option Addr} {n c j k : Nat} : ∀ v ∈ (#[Value.slice a n c, Value.slice i j k] : Array Value).toList, v.oneCell' = true := by
  intro v hv; simp at hv; rcases hv with rfl | rfl <;> rfl
theorem IsW.form_len {w : World} {v : Value} {l : List Nat} (h : IsW w v l) : ∃ a n c, v = .slice a n c ∧ n = l.length := by
  obtain ⟨a, c, rfl, _⟩ := h
  exact ⟨a, _, c, rfl, rfl⟩

set_option maxRecDepth 8000 in
set_option maxHeartbeats 4000000 in
theorem rcommon_w {w : World} {u v : Value} {x y : Nat} (hu : IsW w u (digs x)) (hv : IsW w v (digs y)) (hlx : (digs x).length < 1073741824) (hly : (digs y).length < 1073741824) :
    Calls Tryz.prog 115 #[u, v] w fun e w' => (∃ r, e = .returned r ∧ IsW w' r (digs (Nat.gcd x y))) ∧ Below w.heap.size w w' := by
  obtain ⟨G, hG⟩ : ∃ g, g = Nat.gcd x y := ⟨_, rfl⟩
  have HU := Lib.hid hu
  have HV := Lib.hid hv
  have HLX0 := Lib.hid hlx
  have HLY0 := Lib.hid hly
  rw [← hG]
  have HG0 := Lib.hid hG
  obtain ⟨ua, un, uc, hue⟩ := hu.form
  subst hue
  obtain ⟨va, vn, vc, hve⟩ := hv.form
  subst hve
  clear hu hv hlx hly hG
  go_enter Tryz.func115, Tryz.ntmps115
  go_wp2_with fail
  go_loopg [0, 1] y (fun y1 av bv wr => ∃ x1 : Nat, IsW wr av (digs x1) ∧ IsW wr bv (digs y1) ∧ Below w.heap.size w wr ∧ Hid ((digs x1).length < 1073741824) ∧ Hid ((digs y1).length < 1073741824) ∧ Hid (Nat.gcd x1 y1 = G))
  case atStart => exact ⟨x, HU.out, HV.out, Below.refl _ _, HLX0, HLY0, Lib.hid HG0.out.symm⟩
  case round =>
    obtain ⟨x1, ha, hb, hw, HLX, HLY, HG⟩ := hrel
    have HA := Lib.hid ha
    have HB := Lib.hid hb
    have HW := Lib.hid hw
    obtain ⟨a1, la, ca, rfl, hla⟩ := ha.form_len
    obtain ⟨a2, lb, cb, rfl, hlb⟩ := hb.form_len
    have HLA := Lib.hid hla
    have HLB := Lib.hid hlb
    clear ha hb hw hla hlb
    by_cases h2 : 2 < lb
    · have t0 : decide ((2 : Int) < (lb : Int)) = true := by simp; omega
      have HY0 : Hid (0 < gk) := Lib.hid (by
        rcases Nat.eq_zero_or_pos gk with h | h
        · have h9 := HLB.out; rw [h, digs_zero] at h9; simp at h9; omega
        · exact h)
      have HK := Lib.hid (rparts_w HA.out HB.out HY0.out HLX.out)
      go_wp2_with fail
      refine HK.out.mono ?_
      rintro en w5 ⟨⟨qv, rv, rfl, hq5, hr5⟩, hb5⟩
      obtain ⟨qa, qn, qc, hqe⟩ := hq5.form
      subst hqe
      obtain ⟨ra, rn, rc, hre⟩ := hr5.form
      subst hre
      have HR5 := Lib.hid hr5
      have HB5 := Lib.hid hb5
      clear hq5 hr5 hb5 HK
      go_wp2_with ((with_reducible refine at_store ?_); refine wpList_store_var rfl _ _ _ rfl w5.heap.size rfl _ rfl _ _ (heap_alloc_new _ _) iparts rfl two_one ?_; intro w6 h6 hon6; refine halt ?_)
      have hb6 : Below w5.heap.size w5 w6 := below_only ((Below.refl _ _).alloc (Nat.le_refl _) _) hon6 (Nat.le_refl _)
      have HR6 := Lib.hid (HR5.out.below hb6)
      have HB6 := Lib.hid (HB.out.below (below_trans HB5.out hb6))
      have HW6 := Lib.hid (below_trans HW.out (below_trans HB5.out hb6))
      have s0 := cells_later h6 0 _ rfl _ (Below.refl _ _)
      have s1 := cells_later h6 1 _ rfl _ (Below.refl _ _)
      clear h6 hon6 hb6
      refine go_on ?_
      go_wp2_with fail
      go_quiet (fail)
      go_wp2_with fail
      go_roundg (x1 % gk)
      case measure => exact Nat.mod_lt _ HY0.out
      case rel => exact ⟨gk, HB6.out.drewN _, HR6.out.drewN _, below_drewN HW6.out _, HLY, Lib.hid (Nat.lt_of_le_of_lt (len_digs_mono (Nat.le_of_lt (Nat.mod_lt x1 HY0.out))) HLY.out), Lib.hid (by rw [← HG.out, Nat.gcd_comm gk, ← Nat.gcd_rec, Nat.gcd_comm])⟩
    · have t0 : decide ((2 : Int) < (lb : Int)) = false := by simp; omega
      by_cases h3 : 2 < la
      · have t1 : decide ((2 : Int) < (la : Int)) = true := by simp; omega
        by_cases h4 : 0 < lb
        · have t2 : decide ((0 : Int) < (lb : Int)) = true := by simp; omega
          have HY0 : Hid (0 < gk) := Lib.hid (by
            rcases Nat.eq_zero_or_pos gk with h | h
            · have h9 := HLB.out; rw [h, digs_zero] at h9; simp at h9; omega
            · exact h)
          have HK := Lib.hid (rparts_w HA.out HB.out HY0.out HLX.out)
          go_wp2_with fail
          refine HK.out.mono ?_
          rintro en w5 ⟨⟨qv, rv, rfl, hq5, hr5⟩, hb5⟩
          obtain ⟨qa, qn, qc, hqe⟩ := hq5.form
          subst hqe
          obtain ⟨ra, rn, rc, hre⟩ := hr5.form
          subst hre
          have HR5 := Lib.hid hr5
          have HB5 := Lib.hid hb5
          clear hq5 hr5 hb5 HK
          go_wp2_with ((with_reducible refine at_store ?_); refine wpList_store_var rfl _ _ _ rfl w5.heap.size rfl _ rfl _ _ (heap_alloc_new _ _) iparts rfl two_one ?_; intro w6 h6 hon6; refine halt ?_)
          have hb6 : Below w5.heap.size w5 w6 := below_only ((Below.refl _ _).alloc (Nat.le_refl _) _) hon6 (Nat.le_refl _)
          have HR6 := Lib.hid (HR5.out.below hb6)
          have HB6 := Lib.hid (HB.out.below (below_trans HB5.out hb6))
          have HW6 := Lib.hid (below_trans HW.out (below_trans HB5.out hb6))
          have s0 := cells_later h6 0 _ rfl _ (Below.refl _ _)
          have s1 := cells_later h6 1 _ rfl _ (Below.refl _ _)
          clear h6 hon6 hb6
          refine go_on ?_
          go_wp2_with fail
          go_quiet (fail)
          go_wp2_with fail
          go_roundg (x1 % gk)
          case measure => exact Nat.mod_lt _ HY0.out
          case rel => exact ⟨gk, HB6.out.drewN _, HR6.out.drewN _, below_drewN HW6.out _, HLY, Lib.hid (Nat.lt_of_le_of_lt (len_digs_mono (Nat.le_of_lt (Nat.mod_lt x1 HY0.out))) HLY.out), Lib.hid (by rw [← HG.out, Nat.gcd_comm gk, ← Nat.gcd_rec, Nat.gcd_comm])⟩
        · have t2 : decide ((0 : Int) < (lb : Int)) = false := by simp; omega
          have HY0 : Hid (gk = 0) := Lib.hid (by
            rcases Nat.eq_zero_or_pos gk with h | h
            · exact h
            · have h9 := HLB.out; rw [digs_pos (by omega)] at h9; simp at h9; omega)
          have hlb0 : ((lb : Int) == 0) = true := by simp; omega
          go_wp2_with fail
          go_ret
          exact ⟨⟨_, rfl, by rw [← HG.out, HY0.out, Nat.gcd_zero_right]; exact HA.out⟩, HW.out⟩
      · have t1 : decide ((2 : Int) < (la : Int)) = false := by simp; omega
        by_cases h4 : 0 < lb
        · have hlb0 : ((lb : Int) == 0) = false := by simp; omega
          have HY0 : Hid (0 < gk) := Lib.hid (by
            rcases Nat.eq_zero_or_pos gk with h | h
            · have h9 := HLB.out; rw [h, digs_zero] at h9; simp at h9; omega
            · exact h)
          have HX2 : Hid ((digs x1).length ≤ 2) := Lib.hid (by have := HLA.out; omega)
          have HY2 : Hid ((digs gk).length ≤ 2) := Lib.hid (by have := HLB.out; omega)
          have e2 : (4294967296 : Nat) ^ 2 = 18446744073709551616 := by decide
          have HXB : Hid (x1 < 18446744073709551616) := Lib.hid (by have := len_digs_le.1 HX2.out; rwa [e2] at this)
          have HYB : Hid (gk < 18446744073709551616) := Lib.hid (by have := len_digs_le.1 HY2.out; rwa [e2] at this)
          clear e2
          obtain ⟨wb, rfl⟩ : ∃ wb : World, wb = wr := ⟨_, rfl⟩
          go_wp2_with fail
          refine (rsmall_d HA.out HX2.out).mono ?_
          rintro en w2 ⟨rfl, rfl⟩
          go_wp2_with fail
          refine (rsmall_d HB.out HY2.out).mono ?_
          rintro en w2 ⟨rfl, rfl⟩
          go_wp2_with fail
          go_loopw [6, 7] (fun xv yv wr => ∃ p q n : Nat, xv = .int .u64 p ∧ yv = .int .u64 q ∧ p < 18446744073709551616 ∧ q < 18446744073709551616 ∧ Hid (Nat.gcd p q = G) ∧ wr = wb.drewN n) (fun _ yv _ => (intOf yv).toNat)
          case atStart => exact ⟨x1, gk, _, rfl, rfl, HXB.out, HYB.out, HG, by first | exact rfl | exact (World.drewN_zero _).symm⟩
          case round =>
            obtain ⟨p, q, n, rfl, rfl, hp, hq, HPQ, rfl⟩ := hrel
            by_cases hq0 : 0 < q
            · have t0 : decide ((0 : Int) < (q : Int)) = true := by simp; omega
              have t1 : ((q : Int) == 0) = false := by simp; omega
              go_wp2_with fail
              go_quiet (fail)
              go_wp2_with fail
              go_roundw
              case rel => exact ⟨q, p % q, _, rfl, by go_num, hq, Nat.lt_trans (Nat.mod_lt p hq0) hq, Lib.hid (by rw [← HPQ.out, Nat.gcd_comm q, ← Nat.gcd_rec, Nat.gcd_comm]), World.drewN_drewN _ _ _⟩
              case measure => have := Nat.mod_lt p hq0; simp [intOf]; omega
            · have t0 : decide ((0 : Int) < (q : Int)) = false := by simp; omega
              have HQ0 : Hid (q = 0) := Lib.hid (by omega)
              go_wp2_with fail
              refine (rwide_w p hp).mono ?_
              rintro en w7 ⟨⟨r7, rfl, hr7, -⟩, hb7⟩
              have h9 := HPQ.out
              rw [HQ0.out, Nat.gcd_zero_right] at h9
              rw [h9] at hr7
              have HR7 := Lib.hid hr7
              have HB7 := Lib.hid (below_trans (below_drewN HW.out _) hb7)
              clear h9 hr7 hb7
              go_wp2_with fail
              go_ret
              exact ⟨⟨_, rfl, HR7.out⟩, HB7.out⟩
        · have HY0 : Hid (gk = 0) := Lib.hid (by
            rcases Nat.eq_zero_or_pos gk with h | h
            · exact h
            · have h9 := HLB.out; rw [digs_pos (by omega)] at h9; simp at h9; omega)
          have hlb0 : ((lb : Int) == 0) = true := by simp; omega
          go_wp2_with fail
          go_ret
          exact ⟨⟨_, rfl, by rw [← HG.out, HY0.out, Nat.gcd_zero_right]; exact HA.out⟩, HW.out⟩
end Go.Proofs.YtafenoohjcpjgaaGreat

/- The reference: is a fraction right? -/
namespace Go.Proofs.YtafenoohjcpjgaaGreat
open Go.RowKit

theorem slice_len {w : World} {v : Value} {l : List Nat} (h : IsW w v l) : ∃ a n c, v = .slice a n c ∧ n = l.length ∧ (0 < n → ∃ b off, a = some ⟨b, off, none⟩ ∧ ∀ j, j < n → ∀ w', Below w.heap.size w w' → w'.cell? ⟨b, off + j, none⟩ = some (.int .u32 (nth l j))) := by
  obtain ⟨a, c, rfl, h1⟩ := slice_at h
  refine ⟨a, _, c, rfl, rfl, fun hp => ?_⟩
  obtain ⟨b, off, rfl, f⟩ := h1 hp
  exact ⟨b, off, rfl, fun j hj w' hb => cell_below hb (f j hj)⟩
theorem norm_of_last {l : List Nat} (h : nth l (l.length - 1) ≠ 0) : Norm l := by
  have h9 := norm_take (l := l) (k := l.length) (Nat.le_refl _) (Or.inr h)
  rwa [List.take_length] at h9
theorem rightB_nil {b : Bool} {l m : List Nat} (h : m.length = 0) : rightB b l m = false := by
  have : nilB m = true := by simp [nilB, h]
  unfold rightB; rw [this]; simp
theorem rightB_last {b : Bool} {l m : List Nat} (h0 : m.length ≠ 0) (h : nth m (m.length - 1) = 0) : rightB b l m = false := by
  have : normB m = false := by
    unfold normB
    simp only [decide_eq_false_iff_not]
    intro hn
    exact nth_last hn (fun e => h0 (by rw [e]; rfl)) h
  unfold rightB; rw [this]; simp
theorem rightB_lastn {b : Bool} {l m : List Nat} (h0 : l.length ≠ 0) (h : nth l (l.length - 1) = 0) : rightB b l m = false := by
  have : normB l = false := by
    unfold normB
    simp only [decide_eq_false_iff_not]
    intro hn
    exact nth_last hn (fun e => h0 (by rw [e]; rfl)) h
  unfold rightB; rw [this]; simp
theorem rightB_zero {b : Bool} {l m : List Nat} (hs : l.length + m.length ≤ 4096) (h0 : l.length = 0) (hm0 : m.length ≠ 0) (hm : nth m (m.length - 1) ≠ 0) : rightB b l m = (!b && oneB (val m)) := by
  have hl : l = [] := List.eq_nil_of_length_eq_zero h0
  have h1 : normB m = true := by unfold normB; simpa using norm_of_last hm
  have h2 : nilB m = false := by simp [nilB, hm0]
  have h3 : shortF l m = true := by simp [shortF, hs]
  have h4 : normB l = true := by subst hl; unfold normB; simp [Norm]
  have h5 : nilB l = true := by simp [nilB, h0]
  have h6 : val l = 0 := by subst hl; rfl
  unfold rightB; rw [h1, h2, h3, h4, h5, h6, Nat.gcd_zero_left]; simp
theorem rightB_some {b : Bool} {l m : List Nat} (hs : l.length + m.length ≤ 4096) (h0 : l.length ≠ 0) (hl : nth l (l.length - 1) ≠ 0) (hm0 : m.length ≠ 0) (hm : nth m (m.length - 1) ≠ 0) : rightB b l m = oneB (Nat.gcd (val l) (val m)) := by
  have h1 : normB m = true := by unfold normB; simpa using norm_of_last hm
  have h2 : nilB m = false := by simp [nilB, hm0]
  have h3 : shortF l m = true := by simp [shortF, hs]
  have h4 : normB l = true := by unfold normB; simpa using norm_of_last hl
  have h5 : nilB l = false := by simp [nilB, h0]
  unfold rightB; rw [h1, h2, h3, h4, h5]; simp
theorem val_one {m : List Nat} (h : m.length = 1) : val m = nth m 0 := by
  match m, h with
  | [d], _ => simp [val, nth]
theorem not_one {m : List Nat} (hn : Norm m) (hw : Ws m) (h : m.length ≠ 1) : val m ≠ 1 := by
  intro e
  have h1 := digs_val m hw hn
  rw [e, digs_one] at h1
  exact h (by rw [← h1]; rfl)

set_option maxRecDepth 8000 in
set_option maxHeartbeats 4000000 in
theorem rright_w {w : World} {v : Value} {b : Bool} {l m : List Nat} (hv : RawF w v b l m) (hs : l.length + m.length ≤ 4096) :
    Calls Tryz.prog 89 #[v] w fun e w' => e = .returned (.bool (rightB b l m)) ∧ Below w.heap.size w w' := by
  obtain ⟨u, d, rfl, hu, hd⟩ := hv
  have HU := Lib.hid hu
  have HD := Lib.hid hd
  obtain ⟨a1, la, c1, rfl, hla, k1⟩ := slice_len hu
  obtain ⟨a2, lb, c2, rfl, hlb, k2⟩ := slice_len hd
  obtain ⟨R, hR⟩ : ∃ R, R = rightB b l m := ⟨_, rfl⟩
  have HR := Lib.hid hR
  rw [← hR]
  have HLA := Lib.hid hla
  have HLB := Lib.hid hlb
  have HS := Lib.hid hs
  rw [← hla, ← hlb] at hs
  obtain ⟨w1, hw1⟩ : ∃ w1, w1 = w.alloc (Obj.cells #[Value.bool b, Value.slice a1 la c1, Value.slice a2 lb c2] 43) := ⟨_, rfl⟩
  have HB1 : Hid (Below w.heap.size w w1) := Lib.hid (by rw [hw1]; exact (Below.refl _ _).alloc (Nat.le_refl _) _)
  have hX : w1.heap[w.heap.size]? = some (.cells #[Value.bool b, Value.slice a1 la c1, Value.slice a2 lb c2] 43 (0, 0)) := by rw [hw1]; exact heap_alloc_new w _
  have x0 := cells_later hX 0 _ rfl _ (Below.refl _ _)
  have x1 := cells_later hX 1 _ rfl _ (Below.refl _ _)
  have x2 := cells_later hX 2 _ rfl _ (Below.refl _ _)
  have HW1 := Lib.hid hw1.symm
  have s1 : decide ((4096 : Int) < (la : Int)) = false := by simp; omega
  have s2 : decide ((4096 : Int) < (lb : Int)) = false := by simp; omega
  have s3 : decide ((4096 : Int) < (la : Int) + (lb : Int)) = false := by simp; omega
  have K1 := Lib.hid k1
  have K2 := Lib.hid k2
  have hla9 : la ≤ 4096 := by omega
  have hlb9 : lb ≤ 4096 := by omega
  clear hu hd hla hlb hR hw1 hX k1 k2 hs
  go_enter Tryz.func89, Tryz.ntmps89
  go_wp2_with fail
  rw [HW1.out]
  go_quiet (fail)
  by_cases h0 : lb = 0
  · have t0 : ((lb : Int) == 0) = true := by simp; omega
    have HF : Hid (R = false) := Lib.hid (by rw [HR.out]; exact rightB_nil (by rw [← HLB.out]; exact h0))
    clear h0
    go_wp2_with fail
    go_ret
    exact ⟨by rw [HF.out]; rfl, below_drewN HB1.out _⟩
  · have t0 : ((lb : Int) == 0) = false := by simp; omega
    have hlb0 : 0 < lb := by omega
    obtain ⟨b2, o2, rfl, f2⟩ := K2.out (by omega)
    have g2 := f2 (lb - 1) (by omega) _ HB1.out
    have g20 := f2 0 (by omega) _ HB1.out
    rw [Nat.add_zero] at g20
    obtain ⟨tm, htm⟩ : ∃ x, x = nth m (lb - 1) := ⟨_, rfl⟩
    rw [← htm] at g2
    have HTM := Lib.hid htm
    clear htm f2
    by_cases hm0 : tm = 0
    · have t1 : ((tm : Int) == 0) = true := by simp; omega
      have HF : Hid (R = false) := Lib.hid (by rw [HR.out]; exact rightB_last (by rw [← HLB.out]; exact h0) (by rw [← HLB.out, ← HTM.out]; exact hm0))
      clear hm0 h0
      go_wp2_with fail
      go_ret
      exact ⟨by rw [HF.out]; rfl, below_drewN HB1.out _⟩
    · have t1 : ((tm : Int) == 0) = false := by simp; omega
      have HM0 : Hid (m.length ≠ 0) := Lib.hid (by rw [← HLB.out]; exact h0)
      have HM1 : Hid (nth m (m.length - 1) ≠ 0) := Lib.hid (by rw [← HLB.out, ← HTM.out]; exact hm0)
      clear hm0 h0
      have HDM : Hid (digs (val m) = m) := Lib.hid (digs_val m HD.out.ws (norm_of_last HM1.out))
      obtain ⟨d0, hd0⟩ : ∃ x, x = nth m 0 := ⟨_, rfl⟩
      rw [← hd0] at g20
      have HD0 := Lib.hid hd0
      clear hd0
      by_cases hl0 : la = 0
      · have t2 : ((la : Int) == 0) = true := by simp; omega
        have HRZ : Hid (R = (!b && oneB (val m))) := Lib.hid (by rw [HR.out]; exact rightB_zero HS.out (by rw [← HLA.out]; exact hl0) HM0.out HM1.out)
        clear hl0
        cases b with
        | true =>
          have HF : Hid (R = false) := Lib.hid (by rw [HRZ.out]; rfl)
          go_wp2_with fail
          go_ret
          exact ⟨by rw [HF.out]; rfl, below_drewN HB1.out _⟩
        | false =>
          by_cases hl1 : lb = 1
          · have t3 : ((lb : Int) == 1) = true := by simp; omega
            have HF : Hid (R = oneB d0) := Lib.hid (by rw [HRZ.out, val_one (by rw [← HLB.out]; exact hl1), ← HD0.out]; rfl)
            by_cases hd1 : d0 = 1
            · have t4 : ((d0 : Int) == 1) = true := by simp; omega
              have HF2 : Hid (R = true) := Lib.hid (by rw [HF.out, hd1]; rfl)
              clear hl1 hd1
              go_wp2_with fail
              go_ret
              exact ⟨by rw [HF2.out]; rfl, below_drewN HB1.out _⟩
            · have t4 : ((d0 : Int) == 1) = false := by simp; omega
              have HF2 : Hid (R = false) := Lib.hid (by rw [HF.out]; simp [oneB, hd1])
              clear hl1 hd1
              go_wp2_with fail
              go_ret
              exact ⟨by rw [HF2.out]; rfl, below_drewN HB1.out _⟩
          · have t3 : ((lb : Int) == 1) = false := by simp; omega
            have HF2 : Hid (R = false) := Lib.hid (by rw [HRZ.out]; have := not_one (norm_of_last HM1.out) HD.out.ws (by rw [← HLB.out]; exact hl1); simp [oneB, this])
            clear hl1
            go_wp2_with fail
            go_ret
            exact ⟨by rw [HF2.out]; rfl, below_drewN HB1.out _⟩
      · have t2 : ((la : Int) == 0) = false := by simp; omega
        have hla0 : 0 < la := by omega
        obtain ⟨b1, o1, rfl, f1⟩ := K1.out (by omega)
        have g1 := f1 (la - 1) (by omega) _ HB1.out
        obtain ⟨tl, htl⟩ : ∃ x, x = nth l (la - 1) := ⟨_, rfl⟩
        rw [← htl] at g1
        have HTL := Lib.hid htl
        clear htl f1
        by_cases hn0 : tl = 0
        · have t3 : ((tl : Int) == 0) = true := by simp; omega
          have HF : Hid (R = false) := Lib.hid (by rw [HR.out]; exact rightB_lastn (by rw [← HLA.out]; exact hl0) (by rw [← HLA.out, ← HTL.out]; exact hn0))
          clear hn0 hl0
          go_wp2_with fail
          go_ret
          exact ⟨by rw [HF.out]; rfl, below_drewN HB1.out _⟩
        · have t3 : ((tl : Int) == 0) = false := by simp; omega
          have HL1 : Hid (nth l (l.length - 1) ≠ 0) := Lib.hid (by rw [← HLA.out, ← HTL.out]; exact hn0)
          have HRS : Hid (R = oneB (Nat.gcd (val l) (val m))) := Lib.hid (by rw [HR.out]; exact rightB_some HS.out (by rw [← HLA.out]; exact hl0) HL1.out HM0.out HM1.out)
          have HDL : Hid (digs (val l) = l) := Lib.hid (digs_val l HU.out.ws (norm_of_last HL1.out))
          clear hn0 hl0
          by_cases hl1 : lb = 1
          · have t4 : ((lb : Int) == 1) = true := by simp; omega
            by_cases hd1 : d0 = 1
            · have t5 : ((d0 : Int) == 1) = true := by simp; omega
              have HF2 : Hid (R = true) := Lib.hid (by rw [HRS.out, val_one (m := m) (by rw [← HLB.out]; exact hl1), ← HD0.out, hd1, Nat.gcd_one_right]; rfl)
              clear hl1 hd1
              go_wp2_with fail
              go_ret
              exact ⟨by rw [HF2.out]; rfl, below_drewN HB1.out _⟩
            · have t5 : ((d0 : Int) == 1) = false := by simp; omega
              clear hl1 hd1
              have HCM := Lib.hid (rcommon_w (w := w1.drewN nq) (x := val l) (y := val m) (by rw [HDL.out]; exact (HU.out.below HB1.out).drewN _) (by rw [HDM.out]; exact (HD.out.below HB1.out).drewN _) (by rw [HDL.out]; have := HS.out; omega) (by rw [HDM.out]; have := HS.out; omega))
              go_wp2_with fail
              refine HCM.out.mono ?_
              rintro en5 w5 ⟨⟨r5, rfl, hr5⟩, hb5⟩
              obtain ⟨gg, hgg⟩ : ∃ g, g = Nat.gcd (val l) (val m) := ⟨_, rfl⟩
              rw [← hgg] at hr5
              have HRG : Hid (R = oneB gg) := Lib.hid (by rw [hgg]; exact HRS.out)
              have HB5 := Lib.hid (below_trans (below_drewN HB1.out _) hb5)
              clear hgg hb5 HCM
              by_cases hg1 : gg = 1
              · have HF : Hid (R = true) := Lib.hid (by rw [HRG.out, hg1]; rfl)
                rw [hg1, digs_one] at hr5
                obtain ⟨gb, go9, gc, rfl, hgc⟩ := one_form hr5
                have g5 := hgc _ (Below.refl _ _)
                clear hg1 hr5 hgc
                go_wp2_with fail
                go_ret
                exact ⟨by rw [HF.out]; rfl, HB5.out⟩
              · have HF : Hid (R = false) := Lib.hid (by rw [HRG.out]; simp [oneB, hg1])
                obtain ⟨ga, gn, gc, rfl, hgn, hgc⟩ := slice_len hr5
                by_cases hn1 : gn = 1
                · obtain ⟨gb, go9, rfl, hgd⟩ := hgc (by omega)
                  have g5 := hgd 0 (by omega) _ (Below.refl _ _)
                  rw [Nat.add_zero] at g5
                  have hd1 : nth (digs gg) 0 ≠ 1 := by
                    have h9 := val_one (m := digs gg) (by omega)
                    rw [val_digs] at h9
                    rw [← h9]; exact hg1
                  obtain ⟨dg, hdg⟩ : ∃ d, d = nth (digs gg) 0 := ⟨_, rfl⟩
                  rw [← hdg] at g5 hd1
                  have t9 : ((dg : Int) == 1) = false := by simp; omega
                  subst hn1
                  clear hg1 hr5 hgc hgd hdg hd1 hgn
                  go_wp2_with fail
                  go_ret
                  exact ⟨by rw [HF.out]; rfl, HB5.out⟩
                · have t9 : ((gn : Int) == 1) = false := by simp; omega
                  clear hg1 hr5 hgc hgn hn1
                  go_wp2_with fail
                  go_ret
                  exact ⟨by rw [HF.out]; rfl, HB5.out⟩
          · have t4 : ((lb : Int) == 1) = false := by simp; omega
            clear hl1
            have HCM := Lib.hid (rcommon_w (w := w1.drewN nq) (x := val l) (y := val m) (by rw [HDL.out]; exact (HU.out.below HB1.out).drewN _) (by rw [HDM.out]; exact (HD.out.below HB1.out).drewN _) (by rw [HDL.out]; have := HS.out; omega) (by rw [HDM.out]; have := HS.out; omega))
            go_wp2_with fail
            refine HCM.out.mono ?_
            rintro en5 w5 ⟨⟨r5, rfl, hr5⟩, hb5⟩
            obtain ⟨gg, hgg⟩ : ∃ g, g = Nat.gcd (val l) (val m) := ⟨_, rfl⟩
            rw [← hgg] at hr5
            have HRG : Hid (R = oneB gg) := Lib.hid (by rw [hgg]; exact HRS.out)
            have HB5 := Lib.hid (below_trans (below_drewN HB1.out _) hb5)
            clear hgg hb5 HCM
            by_cases hg1 : gg = 1
            · have HF : Hid (R = true) := Lib.hid (by rw [HRG.out, hg1]; rfl)
              rw [hg1, digs_one] at hr5
              obtain ⟨gb, go9, gc, rfl, hgc⟩ := one_form hr5
              have g5 := hgc _ (Below.refl _ _)
              clear hg1 hr5 hgc
              go_wp2_with fail
              go_ret
              exact ⟨by rw [HF.out]; rfl, HB5.out⟩
            · have HF : Hid (R = false) := Lib.hid (by rw [HRG.out]; simp [oneB, hg1])
              obtain ⟨ga, gn, gc, rfl, hgn, hgc⟩ := slice_len hr5
              by_cases hn1 : gn = 1
              · obtain ⟨gb, go9, rfl, hgd⟩ := hgc (by omega)
                have g5 := hgd 0 (by omega) _ (Below.refl _ _)
                rw [Nat.add_zero] at g5
                have hd1 : nth (digs gg) 0 ≠ 1 := by
                  have h9 := val_one (m := digs gg) (by omega)
                  rw [val_digs] at h9
                  rw [← h9]; exact hg1
                obtain ⟨dg, hdg⟩ : ∃ d, d = nth (digs gg) 0 := ⟨_, rfl⟩
                rw [← hdg] at g5 hd1
                have t9 : ((dg : Int) == 1) = false := by simp; omega
                subst hn1
                clear hg1 hr5 hgc hgd hdg hd1 hgn
                go_wp2_with fail
                go_ret
                exact ⟨by rw [HF.out]; rfl, HB5.out⟩
              · have t9 : ((gn : Int) == 1) = false := by simp; omega
                clear hg1 hr5 hgc hgn hn1
                go_wp2_with fail
                go_ret
                exact ⟨by rw [HF.out]; rfl, HB5.out⟩
end Go.Proofs.YtafenoohjcpjgaaGreat

/- The reference: 0, fixed fractions; words of its own. -/
namespace Go.Proofs.YtafenoohjcpjgaaGreat
open Go.RowKit

set_option maxHeartbeats 1000000 in
theorem rzero_w {w : World} : Calls Tryz.prog 90 #[] w fun e w' => (∃ r, e = .returned r ∧ FracV w' r 0) ∧ Below w.heap.size w w' := by
  obtain ⟨w1, hw1⟩ : ∃ w1, w1 = w.alloc (Obj.cells #[Value.bool false, Value.slice none 0 0, Value.slice none 0 0] 43) := ⟨_, rfl⟩
  have HB1 : Hid (Below w.heap.size w w1) := Lib.hid (by rw [hw1]; exact (Below.refl _ _).alloc (Nat.le_refl _) _)
  have HR1 : Hid (w1.heap[w.heap.size]? = some (.cells #[Value.bool false, Value.slice none 0 0, Value.slice none 0 0] 43 (0, 0))) := Lib.hid (by rw [hw1]; exact heap_alloc_new w _)
  have HW1 := Lib.hid hw1.symm
  clear hw1
  go_enter Tryz.func90, Tryz.ntmps90
  go_wp2_with fail
  rw [HW1.out]
  refine rone_w.mono ?_
  rintro en2 w2 ⟨⟨r2, rfl, hr2, -⟩, hb2⟩
  obtain ⟨a2, n2, c2, he2⟩ := hr2.form
  subst he2
  have HR2 := Lib.hid hr2
  have HX2 : Hid (w2.heap[w.heap.size]? = some (.cells #[Value.bool false, Value.slice none 0 0, Value.slice none 0 0] 43 (0, 0))) := Lib.hid ((hb2.block _ (lt_of_block HR1.out)).trans HR1.out)
  have HB2 := Lib.hid (below_trans HB1.out hb2)
  have r0 : w2.cell? ⟨w.heap.size, 0, none⟩ = some (Value.bool false) := by rw [cell_of_row _ _ _ _ _ _ HX2.out]; rfl
  have r1 : w2.cell? ⟨w.heap.size, 1, none⟩ = some (Value.slice none 0 0) := by rw [cell_of_row _ _ _ _ _ _ HX2.out]; rfl
  have r2 : w2.cell? ⟨w.heap.size, 2, none⟩ = some (Value.slice none 0 0) := by rw [cell_of_row _ _ _ _ _ _ HX2.out]; rfl
  have f0 := frozen_of_row _ _ 0 _ _ HX2.out
  have f1 := frozen_of_row _ _ 1 _ _ HX2.out
  have f2 := frozen_of_row _ _ 2 _ _ HX2.out
  clear hr2 hb2
  go_wp2_with fail
  have h9 := frac3_q (q := 0) HX2.out (u := Value.slice none 0 0) (d := Value.slice a2 n2 c2) (by show IsW w2 _ (digs 0); rw [digs_zero]; exact IsW.nil _) HR2.out
  exact bodyPost_ret (results_cell_row rfl _ _ w.heap.size _ _ _ _ rfl (frac3_heap HX2.out) Tryz.underlying43 rfl ifrac) rfl ⟨⟨_, rfl, h9⟩, below_only HB2.out (frac3_only _ _ _ _ _) (by omega)⟩

set_option maxHeartbeats 1000000 in
theorem rfix_w {w : World} {v : Value} {b : Bool} {l m : List Nat} (hv : RawF w v b l m) (hs : l.length + m.length ≤ 4096) :
    Calls Tryz.prog 59 #[v] w fun e w' => (∃ r, e = .returned r ∧ FracV w' r (fixR b l m)) ∧ Below w.heap.size w w' := by
  have HV := Lib.hid hv
  obtain ⟨u, d, rfl, hu, hd⟩ := hv
  obtain ⟨ua, un, uc, hue⟩ := hu.form
  subst hue
  obtain ⟨da, dn, dc, hde⟩ := hd.form
  subst hde
  have HU := Lib.hid hu
  have HD := Lib.hid hd
  clear hu hd
  obtain ⟨w1, hw1⟩ : ∃ w1, w1 = (w.alloc (Obj.cells #[Value.bool b, Value.slice ua un uc, Value.slice da dn dc] 43)).alloc (Obj.cells #[Value.bool false, Value.slice none 0 0, Value.slice none 0 0] 43) := ⟨_, rfl⟩
  have HB1 : Hid (Below w.heap.size w w1) := Lib.hid (by rw [hw1]; exact ((Below.refl _ _).alloc (Nat.le_refl _) _).alloc (by simp) _)
  have HX : Hid (w1.heap[w.heap.size]? = some (.cells #[Value.bool b, Value.slice ua un uc, Value.slice da dn dc] 43 (0, 0))) := Lib.hid (by rw [hw1]; exact heap_alloc2_old w _ _)
  have HR : Hid (w1.heap[w.heap.size + 1]? = some (.cells #[Value.bool false, Value.slice none 0 0, Value.slice none 0 0] 43 (0, 0))) := Lib.hid (by rw [hw1]; exact heap_alloc2_new w _ _)
  have HW1 := Lib.hid hw1.symm
  clear hw1
  have HK := Lib.hid (rright_w (HV.out.below HB1.out) hs)
  have x0 := cells_later HX.out 0 _ rfl _ (Below.refl _ _)
  have x1 := cells_later HX.out 1 _ rfl _ (Below.refl _ _)
  have x2 := cells_later HX.out 2 _ rfl _ (Below.refl _ _)
  obtain ⟨R, hR⟩ : ∃ R, R = rightB b l m := ⟨_, rfl⟩
  rw [← hR] at HK
  have HRR := Lib.hid hR
  clear hR hs
  go_enter Tryz.func59, Tryz.ntmps59
  go_wp2_with fail
  rw [HW1.out]
  refine HK.out.mono ?_
  rintro en2 w2 ⟨rfl, hb2⟩
  clear x0 x1 x2
  have x0 := cells_later HX.out 0 _ rfl _ hb2
  have x1 := cells_later HX.out 1 _ rfl _ hb2
  have x2 := cells_later HX.out 2 _ rfl _ hb2
  have HB2 := Lib.hid (below_trans HB1.out hb2)
  have HR2 : Hid (w2.heap[w.heap.size + 1]? = some (.cells #[Value.bool false, Value.slice none 0 0, Value.slice none 0 0] 43 (0, 0))) := Lib.hid ((hb2.block _ (lt_of_block HR.out)).trans HR.out)
  clear hb2
  cases R with
  | true =>
    have r0 := cells_later HR2.out 0 _ rfl _ (Below.refl _ _)
    have r1 := cells_later HR2.out 1 _ rfl _ (Below.refl _ _)
    have r2 := cells_later HR2.out 2 _ rfl _ (Below.refl _ _)
    have f0 := frozen_of_row _ _ 0 _ _ HR2.out
    have f1 := frozen_of_row _ _ 1 _ _ HR2.out
    have f2 := frozen_of_row _ _ 2 _ _ HR2.out
    have HRT := Lib.hid (right_rat HU.out.ws HD.out.ws HRR.out.symm)
    go_wp2_with fail
    have h9 := frac3_q (q := fixR b l m) HR2.out (u := Value.slice ua un uc) (d := Value.slice da dn dc) (by rw [← HRT.out.1]; exact HU.out.below HB2.out) (by rw [← HRT.out.2.1]; exact HD.out.below HB2.out)
    rw [← HRT.out.2.2.1] at h9
    exact bodyPost_ret (results_cell_row rfl _ _ (w.heap.size + 1) _ _ _ _ rfl (frac3_heap HR2.out) Tryz.underlying43 rfl ifrac) rfl ⟨⟨_, rfl, h9⟩, below_only HB2.out (frac3_only _ _ _ _ _) (by omega)⟩
  | false =>
    have HF : Hid (fixR b l m = 0) := Lib.hid (by unfold fixR; rw [← HRR.out]; rfl)
    go_wp2_with fail
    refine rzero_w.mono ?_
    rintro en3 w3 ⟨⟨r3, rfl, f3⟩, hb3⟩
    obtain ⟨u3, d3, rfl, hu3, hd3⟩ := f3
    obtain ⟨a3, n3, c3, he3⟩ := hu3.form
    subst he3
    obtain ⟨i3, j3, k3, he4⟩ := hd3.form
    subst he4
    have HU3 := Lib.hid hu3
    have HD3 := Lib.hid hd3
    have HB3 := Lib.hid (below_trans HB2.out hb3)
    have HR3 : Hid (w3.heap[w.heap.size + 1]? = some (.cells #[Value.bool false, Value.slice none 0 0, Value.slice none 0 0] 43 (0, 0))) := Lib.hid ((hb3.block _ (lt_of_block HR2.out)).trans HR2.out)
    have r0 := cells_later HR3.out 0 _ rfl _ (Below.refl _ _)
    have r1 := cells_later HR3.out 1 _ rfl _ (Below.refl _ _)
    have r2 := cells_later HR3.out 2 _ rfl _ (Below.refl _ _)
    have f0 := frozen_of_row _ _ 0 _ _ HR3.out
    have f1 := frozen_of_row _ _ 1 _ _ HR3.out
    have f2 := frozen_of_row _ _ 2 _ _ HR3.out
    clear x0 x1 x2 hu3 hd3 hb3
    go_wp2_with fail
    have h9 := frac3_q (q := 0) HR3.out HU3.out HD3.out
    exact bodyPost_ret (results_cell_row rfl _ _ (w.heap.size + 1) _ _ _ _ rfl (frac3_heap HR3.out) Tryz.underlying43 rfl ifrac) rfl ⟨⟨_, rfl, by rw [HF.out]; exact h9⟩, below_only HB3.out (frac3_only _ _ _ _ _) (by omega)⟩
end Go.Proofs.YtafenoohjcpjgaaGreat

/- The reference: words of its own, fractions of its own; same, of the statements. -/
namespace Go.Proofs.YtafenoohjcpjgaaGreat
open Go.RowKit

end Go.Proofs.YtafenoohjcpjgaaGreat

/- The reference: a fraction of its own; same, of the statements. -/
namespace Go.Proofs.YtafenoohjcpjgaaGreat
open Go.RowKit
attribute [local go_sem ↓] Go.wp_at_zero Go.wp_at_succ

end Go.Proofs.YtafenoohjcpjgaaGreat

/- FracFix answers true at every input, and what it is handed reads behind the call as it read before: any words of at most 12 a number are told right or not, and fixed, as the reference does. No conditions. -/
namespace Go.Proofs.YtafenoohjcpjgaaGreat
open Go.RowKit
attribute [local go_sem ↓] Go.wp_at_zero Go.wp_at_succ

theorem raw_form {w : World} {r : Value} {b : Bool} {l m : List Nat} (h : RawF w r b l m) : ∃ a n c i j k, r = .agg #[.bool b, .slice a n c, .slice i j k] := by
  obtain ⟨u, d, rfl, hu, hd⟩ := h
  obtain ⟨a, n, c, rfl⟩ := hu.form
  obtain ⟨i, j, k, rfl⟩ := hd.form
  exact ⟨a, n, c, i, j, k, rfl⟩

end Go.Proofs.YtafenoohjcpjgaaGreat

/- FracFix answers true at every input, and what it is handed reads behind the call as it read before: any words of at most 12 a number are told right or not, and fixed, as the reference does. No conditions. -/
namespace Go.Proofs.YtafenoohjcpjgaaGreat
open Go.ChangeShapes Go.WideShapes Go.ChangeAt Go.RowKit

end Go.Proofs.YtafenoohjcpjgaaGreat
