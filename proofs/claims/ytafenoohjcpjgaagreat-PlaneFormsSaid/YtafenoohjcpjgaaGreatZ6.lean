/- Several texts in one: Lm, Wn, Wo, Wp. -/
import Derived.Below
import Derived.Test.YtafenoohjcpjgaaGreatZ5
import Derived.Deep.RegionHeld3
/- Several divisions of Euclid's algorithm at once (Lehmer), with the condition of Collins and Jebelean: plain arithmetic. -/
namespace Go.Proofs.YtafenoohjcpjgaaGreat

/-- Behind some divisions of the first bits X0, Y0 of a and b: x, y are the rests, (A2, B2), (A3, B3) their shares, e the sign. -/
structure LeapInv (a b X0 Y0 e x y A2 B2 A3 B3 : Int) : Prop where
  he : e = 1 ∨ e = -1
  hx : x = e * (A2 * X0 - B2 * Y0)
  hy : y = e * (B3 * Y0 - A3 * X0)
  det : A2 * B3 - A3 * B2 = e
  xy : y ≤ x
  y0 : 0 ≤ y
  a2 : 0 ≤ A2
  b2 : 0 ≤ B2
  a3 : 0 ≤ A3
  b3 : 1 ≤ B3
  le3 : A3 ≤ B3
  les : A2 + A3 ≤ B2 + B3
  own : 1 ≤ B2 → e * (A2 * a - B2 * b) ≤ b
  mono : B2 ≤ B3
  le2 : 1 ≤ B2 → A2 ≤ B2

theorem leap_good {a b X0 Y0 e x y A2 B2 A3 B3 D a' b' : Int} (h : LeapInv a b X0 Y0 e x y A2 B2 A3 B3) (ha : a = X0 * D + a') (hb : b = Y0 * D + b') (ha0 : 0 ≤ a') (hb0 : 0 ≤ b') (haD : a' < D) (hbD : b' < D)
    (c1 : B3 ≤ y) (c2 : B2 + B3 ≤ x - y) : 0 ≤ e * (B3 * b - A3 * a) ∧ e * (B3 * b - A3 * a) < e * (A2 * a - B2 * b) := by
  obtain ⟨he, hx, hy, det, xy, y0, a2, b2, a3, b3, le3, les, own, mono, le2⟩ := h
  have e3 : e * (B3 * b - A3 * a) = y * D + e * (B3 * b' - A3 * a') := by rw [ha, hb, hy]; grind
  have e2 : e * (A2 * a - B2 * b) = x * D + e * (A2 * a' - B2 * b') := by rw [ha, hb, hx]; grind
  have hD : 0 < D := by omega
  have p1 : 0 ≤ B3 * b' := Int.mul_nonneg (by omega) hb0
  have p2 : 0 ≤ A3 * a' := Int.mul_nonneg a3 ha0
  have p3 : B3 * b' ≤ B3 * D := Int.mul_le_mul_of_nonneg_left (by omega) (by omega)
  have p4 : A3 * a' ≤ A3 * D := Int.mul_le_mul_of_nonneg_left (by omega) a3
  have p5 : A3 * D ≤ B3 * D := Int.mul_le_mul_of_nonneg_right le3 (by omega)
  have p6 : B3 * D ≤ y * D := Int.mul_le_mul_of_nonneg_right c1 (by omega)
  have p7 : (B2 + B3) * D ≤ (x - y) * D := Int.mul_le_mul_of_nonneg_right c2 (by omega)
  have p8 : (B2 + B3) * b' ≤ (B2 + B3) * (D - 1) := Int.mul_le_mul_of_nonneg_left (by omega) (by omega)
  have p9 : (A2 + A3) * a' ≤ (A2 + A3) * (D - 1) := Int.mul_le_mul_of_nonneg_left (by omega) (by omega)
  have p10 : (A2 + A3) * (D - 1) ≤ (B2 + B3) * (D - 1) := Int.mul_le_mul_of_nonneg_right les (by omega)
  have p11 : 0 ≤ (A2 + A3) * a' := Int.mul_nonneg (by omega) ha0
  have p12 : 0 ≤ (B2 + B3) * b' := Int.mul_nonneg (by omega) hb0
  have p13 : (B2 + B3) * (D - 1) = (B2 + B3) * D - (B2 + B3) := by grind
  have p14 : (x - y) * D = x * D - y * D := by grind
  have p15 : (A2 + A3) * a' = A2 * a' + A3 * a' := by grind
  have p16 : (B2 + B3) * b' = B2 * b' + B3 * b' := by grind
  rw [e2, e3]
  rcases he with rfl | rfl
  · refine ⟨by omega, by omega⟩
  · refine ⟨by omega, by omega⟩

theorem leap_next {a b X0 Y0 e x y A2 B2 A3 B3 q r : Int} (h : LeapInv a b X0 Y0 e x y A2 B2 A3 B3) (ha : 0 ≤ a) (hq : x = q * y + r) (hr0 : 0 ≤ r) (hr : r < y) (hq1 : 1 ≤ q)
    (hgood : e * (B3 * b - A3 * a) < e * (A2 * a - B2 * b)) : LeapInv a b X0 Y0 (-e) y r A3 B3 (A2 + q * A3) (B2 + q * B3) := by
  obtain ⟨he, hx, hy, det, xy, y0, a2, b2, a3, b3, le3, les, own, mono, le2⟩ := h
  have q3 : A3 ≤ q * A3 := by
    have := Int.mul_le_mul_of_nonneg_right hq1 a3; omega
  have q4 : B3 ≤ q * B3 := by
    have := Int.mul_le_mul_of_nonneg_right hq1 (show 0 ≤ B3 by omega); omega
  have q5 : (q - 1) * A3 ≤ (q - 1) * B3 := Int.mul_le_mul_of_nonneg_left le3 (by omega)
  have q6 : (q - 1) * A3 = q * A3 - A3 := by grind
  have q7 : (q - 1) * B3 = q * B3 - B3 := by grind
  refine ⟨by omega, by rw [hy]; grind, ?_, ?_, by omega, hr0, a3, by omega, by omega, by omega, by omega, by omega, ?_, by omega, fun _ => le3⟩
  · have : r = x - q * y := by omega
    rw [this, hx, hy]; grind
  · grind
  · intro _
    have e1 : -e * (A3 * a - B3 * b) = e * (B3 * b - A3 * a) := by grind
    rw [e1]
    by_cases hB : 1 ≤ B2
    · have := own hB; omega
    · have hB0 : B2 = 0 := by omega
      subst hB0
      have hd : A2 * B3 = e := by grind
      have he1 : e = 1 := by
        rcases he with h | h
        · exact h
        · have : 0 ≤ A2 * B3 := Int.mul_nonneg a2 (by omega)
          omega
      subst he1
      have hB3 : B3 = 1 := by
        have hA2 : 1 ≤ A2 := by
          rcases Int.lt_or_le A2 1 with h | h
          · have : A2 = 0 := by omega
            subst this; omega
          · exact h
        have := Int.mul_le_mul_of_nonneg_right hA2 (show 0 ≤ B3 by omega)
        omega
      subst hB3
      have : 0 ≤ A3 * a := Int.mul_nonneg a3 ha
      omega

theorem leap_sum {a b X0 Y0 e x y A2 B2 A3 B3 : Int} (h : LeapInv a b X0 Y0 e x y A2 B2 A3 B3) : B3 * x + B2 * y = X0 := by
  obtain ⟨he, hx, hy, det, xy, y0, a2, b2, a3, b3, le3, les, own, mono, le2⟩ := h
  rw [hx, hy]
  have : e * e = 1 := by rcases he with rfl | rfl <;> rfl
  grind

theorem leap_back {a b X0 Y0 e x y A2 B2 A3 B3 : Int} (h : LeapInv a b X0 Y0 e x y A2 B2 A3 B3) :
    a = B3 * (e * (A2 * a - B2 * b)) + B2 * (e * (B3 * b - A3 * a)) ∧ b = A3 * (e * (A2 * a - B2 * b)) + A2 * (e * (B3 * b - A3 * a)) := by
  obtain ⟨he, hx, hy, det, xy, y0, a2, b2, a3, b3, le3, les, own, mono, le2⟩ := h
  have : e * e = 1 := by rcases he with rfl | rfl <;> rfl
  refine ⟨by grind, by grind⟩

/-- The multiples stay below 2^32 while the condition holds; the next ones below 2^64. -/
theorem leap_small {a b X0 Y0 e x y A2 B2 A3 B3 : Int} (h : LeapInv a b X0 Y0 e x y A2 B2 A3 B3) (hX : X0 < 18446744073709551616) (c1 : B3 ≤ y) : B3 < 4294967296 ∧ A3 < 4294967296 := by
  have hs := leap_sum h
  have h1 : B3 * B3 ≤ B3 * x := Int.mul_le_mul_of_nonneg_left (by have := h.xy; omega) (by have := h.b3; omega)
  have h2 : 0 ≤ B2 * y := Int.mul_nonneg h.b2 h.y0
  have h3 : B3 < 4294967296 := by
    rcases Int.lt_or_le B3 4294967296 with h4 | h4
    · exact h4
    · have h5 := Int.mul_le_mul h4 h4 (by omega) (by omega)
      omega
  exact ⟨h3, by have := h.le3; omega⟩
theorem leap_next_small {a b X0 Y0 e x y A2 B2 A3 B3 : Int} (h : LeapInv a b X0 Y0 e x y A2 B2 A3 B3) (hx : 1 ≤ x) : B3 ≤ X0 := by
  have hs := leap_sum h
  have h1 : B3 * 1 ≤ B3 * x := Int.mul_le_mul_of_nonneg_left hx (by have := h.b3; omega)
  have h2 : 0 ≤ B2 * y := Int.mul_nonneg h.b2 h.y0
  omega

theorem gcd_of_combos {a b r s : Nat} {A2 B2 A3 B3 e : Int} (hr : (r : Int) = e * (A2 * a - B2 * b)) (hs : (s : Int) = e * (B3 * b - A3 * a)) (ha : (a : Int) = B3 * r + B2 * s) (hb : (b : Int) = A3 * r + A2 * s) : Nat.gcd r s = Nat.gcd a b := by
  apply Nat.dvd_antisymm
  · apply Nat.dvd_gcd
    · have h1 : ((Nat.gcd r s : Nat) : Int) ∣ (a : Int) := by
        rw [ha]; exact Int.dvd_add (Int.dvd_mul_of_dvd_right (Int.natCast_dvd_natCast.2 (Nat.gcd_dvd_left r s))) (Int.dvd_mul_of_dvd_right (Int.natCast_dvd_natCast.2 (Nat.gcd_dvd_right r s)))
      exact Int.natCast_dvd_natCast.1 h1
    · have h1 : ((Nat.gcd r s : Nat) : Int) ∣ (b : Int) := by
        rw [hb]; exact Int.dvd_add (Int.dvd_mul_of_dvd_right (Int.natCast_dvd_natCast.2 (Nat.gcd_dvd_left r s))) (Int.dvd_mul_of_dvd_right (Int.natCast_dvd_natCast.2 (Nat.gcd_dvd_right r s)))
      exact Int.natCast_dvd_natCast.1 h1
  · have ga : ((Nat.gcd a b : Nat) : Int) ∣ (a : Int) := Int.natCast_dvd_natCast.2 (Nat.gcd_dvd_left a b)
    have gb : ((Nat.gcd a b : Nat) : Int) ∣ (b : Int) := Int.natCast_dvd_natCast.2 (Nat.gcd_dvd_right a b)
    apply Nat.dvd_gcd
    · have h1 : ((Nat.gcd a b : Nat) : Int) ∣ (r : Int) := by
        rw [hr]; exact Int.dvd_mul_of_dvd_right (Int.dvd_sub (Int.dvd_mul_of_dvd_right ga) (Int.dvd_mul_of_dvd_right gb))
      exact Int.natCast_dvd_natCast.1 h1
    · have h1 : ((Nat.gcd a b : Nat) : Int) ∣ (s : Int) := by
        rw [hs]; exact Int.dvd_mul_of_dvd_right (Int.dvd_sub (Int.dvd_mul_of_dvd_right gb) (Int.dvd_mul_of_dvd_right ga))
      exact Int.natCast_dvd_natCast.1 h1
end Go.Proofs.YtafenoohjcpjgaaGreat

/- What a leap of Euclid's algorithm computes with words. -/
namespace Go.Proofs.YtafenoohjcpjgaaGreat
open Go.RowKit

theorem less_step {l m M : List Nat} {k p q mo le br : Nat} (hk : k < M.length) (hb : br ≤ 1) (hv : pv M 0 k + q * pv m 0 k + 4294967296 ^ k * mo = p * pv l 0 k + 4294967296 ^ k * (le + br)) :
    pv (M.set k (subU (subU (lowW (mulS p (nth l k) 0 mo)) (lowW (mulS q (nth m k) 0 le))) br % 4294967296)) 0 (k + 1) + q * pv m 0 (k + 1) + 4294967296 ^ (k + 1) * (mulS p (nth l k) 0 mo / 4294967296) =
      p * pv l 0 (k + 1) + 4294967296 ^ (k + 1) * (mulS q (nth m k) 0 le / 4294967296 + subU (subU (lowW (mulS p (nth l k) 0 mo)) (lowW (mulS q (nth m k) 0 le))) br / 9223372036854775808) := by
  have h1 : lowW (mulS p (nth l k) 0 mo) < 4294967296 := Nat.mod_lt _ (by omega)
  have h2 : lowW (mulS q (nth m k) 0 le) < 4294967296 := Nat.mod_lt _ (by omega)
  have h := (subU_word _ _ br h1 h2 hb).1
  have g1 := Nat.mod_add_div (mulS p (nth l k) 0 mo) 4294967296
  have g2 := Nat.mod_add_div (mulS q (nth m k) 0 le) 4294967296
  have e := pv_set M 0 k (subU (subU (lowW (mulS p (nth l k) 0 mo)) (lowW (mulS q (nth m k) 0 le))) br % 4294967296) (by omega)
  rw [Nat.zero_add] at e
  rw [e, pv_succ, pv_succ, Nat.zero_add, Nat.pow_succ]
  generalize subU (subU (lowW (mulS p (nth l k) 0 mo)) (lowW (mulS q (nth m k) 0 le))) br / 9223372036854775808 = t at *
  generalize subU (subU (lowW (mulS p (nth l k) 0 mo)) (lowW (mulS q (nth m k) 0 le))) br % 4294967296 = d at *
  unfold lowW at h
  generalize mulS p (nth l k) 0 mo / 4294967296 = u1 at *
  generalize mulS p (nth l k) 0 mo % 4294967296 = d1 at *
  generalize mulS q (nth m k) 0 le / 4294967296 = u2 at *
  generalize mulS q (nth m k) 0 le % 4294967296 = d2 at *
  unfold mulS at g1 g2
  generalize 4294967296 ^ k = P at *
  have e1 : P * (d + d2 + br) = P * (d1 + 4294967296 * t) := by rw [h]
  have e2 : P * (d1 + 4294967296 * u1) = P * (mo + (p * nth l k + 0)) := by rw [g1]
  have e3 : P * (d2 + 4294967296 * u2) = P * (le + (q * nth m k + 0)) := by rw [g2]
  grind

theorem less_end {l m M : List Nat} {N p q mo le br R : Nat} (hM : Ws M) (hlen : M.length = N) (hl : l.length ≤ N) (hm : m.length ≤ N) (hv : pv M 0 N + q * pv m 0 N + 4294967296 ^ N * mo = p * pv l 0 N + 4294967296 ^ N * (le + br))
    (hR : p * val l = q * val m + R) (hRN : R < 4294967296 ^ N) : val M = R := by
  rw [pv_eq_val hlen, pv_all hl, pv_all hm, hR] at hv
  have h1 := val_lt hM
  rw [hlen] at h1
  generalize 4294967296 ^ N = P at *
  have h2 : val M + P * mo = R + P * (le + br) := by omega
  have h3 := congrArg (· % P) h2
  simp only [Nat.add_mul_mod_self_left] at h3
  rwa [Nat.mod_eq_of_lt h1, Nat.mod_eq_of_lt hRN] at h3

set_option maxHeartbeats 1000000 in
theorem timesLess_l {w : World} {u v : Value} {l m : List Nat} {p q N R : Nat} (hu : IsW w u l) (hv : IsW w v m) (hp : p < 4294967296) (hq : q < 4294967296) (hN : N = max l.length m.length) (hR : p * val l = q * val m + R) (hRN : R < 4294967296 ^ N) :
    Calls Tryz.prog 148 #[u, .int .u64 p, v, .int .u64 q] w fun e w' => (∃ r, e = .returned r ∧ IsW w' r (digs R) ∧ (∀ b, r.ownBlock = some b → w.heap.size ≤ b)) ∧ Below w.heap.size w w' := by
  have HU := Lib.hid hu
  have HV := Lib.hid hv
  have hNl : N ≤ 1073741824 ∧ l.length ≤ N ∧ m.length ≤ N := ⟨by have := hu.len; have := hv.len; omega, by omega, by omega⟩
  have HNM := Lib.hid hN
  have HR := Lib.hid hR
  have HRN := Lib.hid hRN
  obtain ⟨a, cap, rfl, i1, i2, i3, i4, i5⟩ := hu
  obtain ⟨b, bcap, rfl, k1, k2, k3, k4, k5⟩ := hv
  have hmx : max (l.length : Int) (m.length : Int) = (N : Int) := by omega
  obtain ⟨n1, n2, n3⟩ := hNl
  clear i3 i4 i5 k3 k4 k5 hN hR hRN
  go_enter Tryz.func148, Tryz.ntmps148
  go_wp2_with (at_make; refine wpList_make_words' rfl _ _ _ _ rfl uw iu32 N _ _ rfl rfl (by omega) (by omega) (by omega) ?_; intro w1 hb1 hbel hs1; refine halt ?_)
  all_goals
    refine go_on ?_
    go_wp2_with fail
    go_loopw [10, 11, 12, 23] (fun mo le br i wr => ∃ (k mon len brn : Nat) (M : List Nat), k ≤ N ∧ i = .int .i64 k ∧ mo = .int .u64 mon ∧ le = .int .u64 len ∧ br = .int .u64 brn ∧ mon < 4294967296 ∧ len < 4294967296 ∧ brn ≤ 1 ∧ Blk wr w.heap.size 125 M ∧ Hid (Ws M) ∧ Hid (M.length = N) ∧ Below w.heap.size w wr ∧
        Hid (pv M 0 k + q * pv m 0 k + 4294967296 ^ k * mon = p * pv l 0 k + 4294967296 ^ k * (len + brn))) (fun _ _ _ i _ => N - (intOf i).toNat)
    case atStart => exact ⟨0, 0, 0, 0, _, Nat.zero_le _, rfl, rfl, rfl, rfl, by omega, by omega, by omega, hb1, Lib.hid (ws_replicate _), Lib.hid (by simp), hbel, Lib.hid (by simp [pv_zero])⟩
    case round =>
      obtain ⟨k, mo, le, br, M, hk, rfl, rfl, rfl, rfl, hmo, hle, hbr, hM, hMw, hMl, hon, hval⟩ := hrel
      by_cases hkn : k < N
      · have hx := ws_nth HU.out.ws k
        have hy := ws_nth HV.out.ws k
        have hcellM := hM.cell k (by have := hMl.out; omega)
        have hfree := hM.free k
        have w1 := mulS_wrap1 hp hx
        have w2 := mulS_wrap3 hp hx (show 0 < 4294967296 by omega) hmo
        have w3 := mulS_lt hp hx (show 0 < 4294967296 by omega) hmo
        have w4 := lowW_and _ w3
        have w5 := mulS_wrap1 hq hy
        have w6 := mulS_wrap3 hq hy (show 0 < 4294967296 by omega) hle
        have w7 := mulS_lt hq hy (show 0 < 4294967296 by omega) hle
        have w8 := lowW_and _ w7
        have hl1 : lowW (mulS p (nth l k) 0 mo) < 4294967296 := Nat.mod_lt _ (by omega)
        have hl2 : lowW (mulS q (nth m k) 0 le) < 4294967296 := Nat.mod_lt _ (by omega)
        have w9 := subU_wrap (lowW (mulS p (nth l k) 0 mo)) (lowW (mulS q (nth m k) 0 le)) (by omega) (by omega)
        have w10 := subU_wrap (subU (lowW (mulS p (nth l k) 0 mo)) (lowW (mulS q (nth m k) 0 le))) br (subU_lt _ _) (by omega)
        have w11 := subU_lt (subU (lowW (mulS p (nth l k) 0 mo)) (lowW (mulS q (nth m k) 0 le))) br
        go_wp2_with fail
        refine (at_w (HU.out.below hon) k).mono ?_
        rintro en w2 ⟨rfl, rfl⟩
        go_wp2_with fail
        refine (at_w (HV.out.below hon) k).mono ?_
        rintro en w2 ⟨rfl, rfl⟩
        go_wp2_with fail
        go_roundw
        case rel =>
          have hw := subU_word _ _ br hl1 hl2 hbr
          exact ⟨k + 1, mulS p (nth l k) 0 mo / 4294967296, mulS q (nth m k) 0 le / 4294967296, subU (subU (lowW (mulS p (nth l k) 0 mo)) (lowW (mulS q (nth m k) 0 le))) br / 9223372036854775808,
            M.set k (subU (subU (lowW (mulS p (nth l k) 0 mo)) (lowW (mulS q (nth m k) 0 le))) br % 4294967296), by omega, by go_num, by go_num, by go_num, by go_num, by omega, by omega, hw.2,
            hM.setCell k _ _ (by unfold U; go_num), Lib.hid (ws_set hMw.out _ (by omega)), Lib.hid (by rw [List.length_set]; exact hMl.out), hon.setCell (Nat.le_refl _) _, Lib.hid (less_step (by have := hMl.out; omega) hbr hval.out)⟩
        case measure => simp [intOf]; omega
      · obtain rfl : k = N := by omega
        have hMv : Hid (val M = R) := Lib.hid (less_end hMw.out hMl.out n2 n3 hval.out HR.out HRN.out)
        have hI := hM.isW_all hMw.out k (by have := hMl.out; omega) (by have := hMl.out; omega)
        rw [hMl.out] at hI
        have HI := Lib.hid hI
        clear hI
        go_wp2_with fail
        refine (trim_d HI.out hMv.out).mono ?_
        rintro en w4 ⟨⟨r, rfl, hr, hown⟩, rfl⟩
        go_wp2_with fail
        go_ret
        refine ⟨⟨r, rfl, hr, fun x hx => ?_⟩, hon⟩
        have := hown x hx
        simp [Value.ownBlock] at this
        omega
end Go.Proofs.YtafenoohjcpjgaaGreat

/- The first bits of a number; leaps. -/
namespace Go.Proofs.YtafenoohjcpjgaaGreat
open Go.RowKit

/-- The first 64 bits behind so many zero bits. -/
def headN (l : List Nat) (n s : Nat) : Nat := nth l (n - 1) * 2 ^ (32 + s) + nth l (n - 2) * 2 ^ s + nth l (n - 3) / 2 ^ (32 - s)

theorem p32 {s : Nat} : 2 ^ (32 + s) = 4294967296 * 2 ^ s := by rw [Nat.pow_add]
theorem p32' {s : Nat} (hs : s < 32) : 2 ^ s * 2 ^ (32 - s) = 4294967296 := by rw [← Nat.pow_add, show s + (32 - s) = 32 by omega]

theorem headN_parts {l : List Nat} {n s : Nat} (hw : Ws l) (hs : s < 32) (htop : nth l (n - 1) * 2 ^ s < 4294967296) :
    nth l (n - 1) * 2 ^ (32 + s) < 18446744073709551616 ∧ nth l (n - 2) * 2 ^ s < 2 ^ (32 + s) ∧ nth l (n - 3) / 2 ^ (32 - s) < 2 ^ s ∧ headN l n s < 18446744073709551616 := by
  have b2 := ws_nth hw (n - 2)
  have b3 := ws_nth hw (n - 3)
  have hp : 0 < 2 ^ s := Nat.pow_pos (by omega)
  have h1 : nth l (n - 1) * 2 ^ (32 + s) = nth l (n - 1) * 2 ^ s * 4294967296 := by rw [p32]; grind
  have h2 : nth l (n - 2) * 2 ^ s < 2 ^ (32 + s) := by rw [p32]; exact Nat.mul_lt_mul_of_pos_right b2 hp
  have h3 : nth l (n - 3) / 2 ^ (32 - s) < 2 ^ s := Nat.div_lt_of_lt_mul (by rw [Nat.mul_comm, p32' hs]; exact b3)
  refine ⟨by omega, h2, h3, ?_⟩
  unfold headN
  rw [h1]
  have h4 : (nth l (n - 2) + 1) * 2 ^ s ≤ 2 ^ (32 + s) := by rw [p32]; exact Nat.mul_le_mul_right _ b2
  have hd : 2 ^ s ∣ 4294967296 := ⟨2 ^ (32 - s), (p32' hs).symm⟩
  have h5 : nth l (n - 1) * 2 ^ s + 2 ^ s ≤ 4294967296 := by
    obtain ⟨c, hc⟩ := hd
    have : nth l (n - 1) < c := Nat.lt_of_mul_lt_mul_right (a := 2 ^ s) (by rw [Nat.mul_comm c, ← hc]; exact htop)
    have := Nat.mul_le_mul_right (2 ^ s) this
    rw [Nat.succ_mul] at this
    rw [hc, Nat.mul_comm _ c]; exact this
  rw [Nat.add_mul, Nat.one_mul, p32] at h4
  have h6 := Nat.mul_le_mul_right 4294967296 h5
  rw [Nat.add_mul, Nat.mul_comm (2 ^ s) 4294967296] at h6
  omega

theorem headN_bits {l : List Nat} {n s : Nat} (hw : Ws l) (hs : s < 32) (htop : nth l (n - 1) * 2 ^ s < 4294967296) :
    bits BinOp.or IntKind.u64 (bits BinOp.or IntKind.u64 (IntKind.u64.wrap ((nth l (n - 1) : Int) * 2 ^ (32 + s))) (IntKind.u64.wrap ((nth l (n - 2) : Int) * 2 ^ s))) ((nth l (n - 3) : Int) / 2 ^ (32 - s)) = (headN l n s : Int) := by
  obtain ⟨h1, h2, h3, h4⟩ := headN_parts hw hs htop
  have b2 := ws_nth hw (n - 2)
  have h7 : 2 ^ (32 + s) ≤ 2 ^ 63 := Nat.pow_le_pow_right (by omega) (by omega)
  have h8 : 2 ^ s ≤ 2 ^ 31 := Nat.pow_le_pow_right (by omega) (by omega)
  have e1 : IntKind.u64.wrap ((nth l (n - 1) : Int) * 2 ^ (32 + s)) = ((nth l (n - 1) * 2 ^ (32 + s) : Nat) : Int) := by
    rw [show ((nth l (n - 1) : Int) * 2 ^ (32 + s)) = ((nth l (n - 1) * 2 ^ (32 + s) : Nat) : Int) by simp]
    exact IntWalk.u64_in _ (by omega)
  have e2 : IntKind.u64.wrap ((nth l (n - 2) : Int) * 2 ^ s) = ((nth l (n - 2) * 2 ^ s : Nat) : Int) := by
    rw [show ((nth l (n - 2) : Int) * 2 ^ s) = ((nth l (n - 2) * 2 ^ s : Nat) : Int) by simp]
    exact IntWalk.u64_in _ (by omega)
  have e3 : ((nth l (n - 3) : Int) / 2 ^ (32 - s)) = ((nth l (n - 3) / 2 ^ (32 - s) : Nat) : Int) := by simp
  rw [e1, e2, e3, u64_or_nat _ _ (by omega) (by omega)]
  have o1 : nth l (n - 1) * 2 ^ (32 + s) ||| nth l (n - 2) * 2 ^ s = nth l (n - 1) * 2 ^ (32 + s) + nth l (n - 2) * 2 ^ s := by
    rw [Nat.mul_comm (nth l (n - 1))]; exact (Nat.two_pow_add_eq_or_of_lt h2 _).symm
  rw [o1]
  have o2 : nth l (n - 1) * 2 ^ (32 + s) + nth l (n - 2) * 2 ^ s = 2 ^ s * (nth l (n - 1) * 4294967296 + nth l (n - 2)) := by rw [p32]; grind
  have o3 : (nth l (n - 1) * 2 ^ (32 + s) + nth l (n - 2) * 2 ^ s) ||| nth l (n - 3) / 2 ^ (32 - s) = headN l n s := by
    unfold headN
    rw [o2]; exact (Nat.two_pow_add_eq_or_of_lt h3 _).symm
  have hlt : nth l (n - 1) * 2 ^ (32 + s) + nth l (n - 2) * 2 ^ s < 18446744073709551616 := Nat.lt_of_le_of_lt (by unfold headN; exact Nat.le_add_right _ _) h4
  rw [u64_or_nat _ _ hlt (by omega), o3]

/-- The number is its head, shifted, and a rest. -/
theorem headN_val {l : List Nat} {n s : Nat} (hw : Ws l) (hs : s < 32) (hn : 3 ≤ n) (hl : l.length ≤ n) :
    ∃ r, val l = headN l n s * (4294967296 ^ (n - 3) * 2 ^ (32 - s)) + r ∧ r < 4294967296 ^ (n - 3) * 2 ^ (32 - s) := by
  obtain ⟨k, rfl⟩ : ∃ k, n = k + 3 := ⟨n - 3, by omega⟩
  have e : val l = pv l 0 k + 4294967296 ^ k * (nth l k + 4294967296 * (nth l (k + 1) + 4294967296 * nth l (k + 2))) := by
    rw [← pv_all hl, show k + 3 = k + 1 + 1 + 1 from rfl, pv_succ, pv_succ, pv_succ]
    simp only [Nat.zero_add, Nat.pow_succ]
    grind
  have h3 := Nat.mod_add_div (nth l k) (2 ^ (32 - s))
  have hp : 0 < 2 ^ (32 - s) := Nat.pow_pos (by omega)
  have hm := Nat.mod_lt (nth l k) hp
  have hlow := pv_lt hw 0 k
  refine ⟨pv l 0 k + 4294967296 ^ k * (nth l k % 2 ^ (32 - s)), ?_, ?_⟩
  · rw [e]
    unfold headN
    simp only [Nat.add_sub_cancel, show k + 3 - 1 = k + 2 from rfl, show k + 3 - 2 = k + 1 from rfl]
    have hp2 := p32' hs
    rw [p32]
    generalize 2 ^ (32 - s) = t at *
    generalize 2 ^ s = u at *
    generalize nth l k % t = d at *
    generalize nth l k / t = q at *
    generalize 4294967296 ^ k = P at *
    have e1 : nth l (k + 1) * 4294967296 = nth l (k + 1) * (u * t) := by rw [hp2]
    have e2 : nth l (k + 2) * 4294967296 = nth l (k + 2) * (u * t) := by rw [hp2]
    rw [← h3]
    grind
  · have h1 : 4294967296 ^ k * (nth l k % 2 ^ (32 - s) + 1) ≤ 4294967296 ^ k * 2 ^ (32 - s) := Nat.mul_le_mul_left _ hm
    rw [Nat.mul_add, Nat.mul_one] at h1
    simp only [Nat.add_sub_cancel]
    omega

set_option maxHeartbeats 1000000 in
theorem head_l {w : World} {v : Value} {l : List Nat} {n s : Nat} (hv : IsW w v l) (hs : s < 32) (hn : 3 ≤ n) (hn2 : n ≤ 1073741824) (htop : nth l (n - 1) * 2 ^ s < 4294967296) :
    Calls Tryz.prog 147 #[v, .int .i64 n, .int .i64 s] w fun e w' => e = .returned (.int .u64 (headN l n s)) ∧ ∃ k, w' = w.drewN k := by
  have HV := Lib.hid hv
  have b1 := ws_nth hv.ws (n - 1)
  have b2 := ws_nth hv.ws (n - 2)
  have b3 := ws_nth hv.ws (n - 3)
  have i1 : ((n : Int) - 1) = ((n - 1 : Nat) : Int) := by omega
  have i2 : ((n : Int) - 2) = ((n - 2 : Nat) : Int) := by omega
  have i3 : ((n : Int) - 3) = ((n - 3 : Nat) : Int) := by omega
  clear hv
  go_enter Tryz.func147, Tryz.ntmps147
  go_wp2_with fail
  go_quiet ((go_at_call 152; exact quiet_left (at_w (HV.out.drewN _) _)))
  go_wp2_with fail
  go_ret
  exact ⟨ret_int (headN_bits HV.out.ws hs htop), _, rfl⟩
def leapV (a1 b1 a2 b2 : Nat) (t : Bool) : Value := .agg #[.int .u64 a1, .int .u64 b1, .int .u64 a2, .int .u64 b2, .bool t]

set_option maxHeartbeats 400000 in
theorem any_l {w : World} {a1 b1 a2 b2 : Nat} {t : Bool} :
    Calls Tryz.prog 125 #[leapV a1 b1 a2 b2 t] w fun e w' => e = .returned (.bool (!(b1 == 0))) ∧ Below w.heap.size w w' := by
  unfold leapV
  go_enter Tryz.func125, Tryz.ntmps125
  go_wp2_with fail
  go_ret
  exact ⟨ret_bool (by rw [Bool.eq_iff_iff]; simp), (Below.refl _ _).alloc (Nat.le_refl _) _⟩

set_option maxHeartbeats 1000000 in
theorem apply_t {w : World} {u v : Value} {l m : List Nat} {a1 b1 a2 b2 N R1 R2 : Nat} (hu : IsW w u l) (hv : IsW w v m) (ha1 : a1 < 4294967296) (hb1 : b1 < 4294967296) (ha2 : a2 < 4294967296) (hb2 : b2 < 4294967296) (hN : N = max l.length m.length)
    (h1 : b1 * val m = a1 * val l + R1) (h2 : a2 * val l = b2 * val m + R2) (hR1 : R1 < 4294967296 ^ N) (hR2 : R2 < 4294967296 ^ N) :
    Calls Tryz.prog 126 #[leapV a1 b1 a2 b2 true, u, v] w fun e w' => (∃ r s, e = .returned (.tuple #[r, s]) ∧ IsW w' r (digs R1) ∧ IsW w' s (digs R2) ∧ (∀ b, r.ownBlock = some b → w.heap.size ≤ b) ∧ (∀ b, s.ownBlock = some b → w.heap.size ≤ b)) ∧ Below w.heap.size w w' := by
  have HU := Lib.hid hu
  have HV := Lib.hid hv
  have HN' : Hid (N = max m.length l.length) := Lib.hid (by omega)
  have HN := Lib.hid hN
  have H1 := Lib.hid h1
  have H2 := Lib.hid h2
  have HR1 := Lib.hid hR1
  have HR2 := Lib.hid hR2
  clear hu hv hN h1 h2 hR1 hR2
  unfold leapV
  go_enter Tryz.func126, Tryz.ntmps126
  go_wp2_with fail
  have hbel0 : Below w.heap.size w (w.alloc (Obj.cells #[Value.int IntKind.u64 a1, Value.int IntKind.u64 b1, Value.int IntKind.u64 a2, Value.int IntKind.u64 b2, Value.bool true] 135)) := (Below.refl _ _).alloc (Nat.le_refl _) _
  have HB0 := Lib.hid hbel0
  clear hbel0
  go_region_held3 (fun w' => w'.cell? ⟨w.heap.size, 0, none⟩ = some (.int .u64 a1) ∧ w'.cell? ⟨w.heap.size, 1, none⟩ = some (.int .u64 b1) ∧ w'.cell? ⟨w.heap.size, 2, none⟩ = some (.int .u64 a2) ∧ w'.cell? ⟨w.heap.size, 3, none⟩ = some (.int .u64 b2))
    (((try dsimp only); refine ⟨?_, ?_, ?_, ?_⟩ <;> (first | (refine cell_below ‹Below _ _ _› ?_; first | assumption | (simp [*]; done)) | go_keep)))
    (first | (go_at_call_of 148 (Value.int IntKind.u64 (a1 : Int)); refine (timesLess_l (HV.out.below HB0.out).drew (HU.out.below HB0.out).drew hb1 ha1 HN'.out H1.out HR1.out).mono ?_; rintro en w4 ⟨⟨r, rfl, hr, hro⟩, hbel4⟩) | (go_at_call 148; refine (timesLess_l ((HU.out.below HB0.out).drew.below hbel4) ((HV.out.below HB0.out).drew.below hbel4) ha2 hb2 HN.out H2.out HR2.out).mono ?_; rintro en w5 ⟨⟨s, rfl, hs, hso⟩, hbel5⟩))
  go_wp2_with fail
  go_ret2
  refine ⟨⟨r, s, rfl, hr.below hbel5, hs, fun z hz => ?_, fun z hz => ?_⟩, below_trans (below_trans HB0.out (below_undrew hbel4)) hbel5⟩
  · have := hro z hz; have := HB0.out.size; simp at this; simp at *; omega
  · have := hso z hz; have := (below_trans HB0.out (below_undrew hbel4)).size; omega
set_option maxHeartbeats 1000000 in
theorem apply_f {w : World} {u v : Value} {l m : List Nat} {a1 b1 a2 b2 N R1 R2 : Nat} (hu : IsW w u l) (hv : IsW w v m) (ha1 : a1 < 4294967296) (hb1 : b1 < 4294967296) (ha2 : a2 < 4294967296) (hb2 : b2 < 4294967296) (hN : N = max l.length m.length)
    (h1 : a1 * val l = b1 * val m + R1) (h2 : b2 * val m = a2 * val l + R2) (hR1 : R1 < 4294967296 ^ N) (hR2 : R2 < 4294967296 ^ N) :
    Calls Tryz.prog 126 #[leapV a1 b1 a2 b2 false, u, v] w fun e w' => (∃ r s, e = .returned (.tuple #[r, s]) ∧ IsW w' r (digs R1) ∧ IsW w' s (digs R2) ∧ (∀ b, r.ownBlock = some b → w.heap.size ≤ b) ∧ (∀ b, s.ownBlock = some b → w.heap.size ≤ b)) ∧ Below w.heap.size w w' := by
  have HU := Lib.hid hu
  have HV := Lib.hid hv
  have HN' : Hid (N = max m.length l.length) := Lib.hid (by omega)
  have HN := Lib.hid hN
  have H1 := Lib.hid h1
  have H2 := Lib.hid h2
  have HR1 := Lib.hid hR1
  have HR2 := Lib.hid hR2
  clear hu hv hN h1 h2 hR1 hR2
  unfold leapV
  go_enter Tryz.func126, Tryz.ntmps126
  go_wp2_with fail
  have hbel0 : Below w.heap.size w (w.alloc (Obj.cells #[Value.int IntKind.u64 a1, Value.int IntKind.u64 b1, Value.int IntKind.u64 a2, Value.int IntKind.u64 b2, Value.bool false] 135)) := (Below.refl _ _).alloc (Nat.le_refl _) _
  have HB0 := Lib.hid hbel0
  clear hbel0
  go_region_held3 (fun w' => w'.cell? ⟨w.heap.size, 0, none⟩ = some (.int .u64 a1) ∧ w'.cell? ⟨w.heap.size, 1, none⟩ = some (.int .u64 b1) ∧ w'.cell? ⟨w.heap.size, 2, none⟩ = some (.int .u64 a2) ∧ w'.cell? ⟨w.heap.size, 3, none⟩ = some (.int .u64 b2))
    (((try dsimp only); refine ⟨?_, ?_, ?_, ?_⟩ <;> (first | (refine cell_below ‹Below _ _ _› ?_; first | assumption | (simp [*]; done)) | go_keep)))
    (first | (go_at_call_of 148 (Value.int IntKind.u64 (a1 : Int)); refine (timesLess_l (HU.out.below HB0.out).drew (HV.out.below HB0.out).drew ha1 hb1 HN.out H1.out HR1.out).mono ?_; rintro en w4 ⟨⟨r, rfl, hr, hro⟩, hbel4⟩) | (go_at_call 148; refine (timesLess_l ((HV.out.below HB0.out).drew.below hbel4) ((HU.out.below HB0.out).drew.below hbel4) hb2 ha2 HN'.out H2.out HR2.out).mono ?_; rintro en w5 ⟨⟨s, rfl, hs, hso⟩, hbel5⟩))
  go_wp2_with fail
  go_ret2
  refine ⟨⟨r, s, rfl, hr.below hbel5, hs, fun z hz => ?_, fun z hz => ?_⟩, below_trans (below_trans HB0.out (below_undrew hbel4)) hbel5⟩
  · have := hro z hz; have := HB0.out.size; simp at this; simp at *; omega
  · have := hso z hz; have := (below_trans HB0.out (below_undrew hbel4)).size; omega
end Go.Proofs.YtafenoohjcpjgaaGreat

/- Finding a leap. -/
namespace Go.Proofs.YtafenoohjcpjgaaGreat
open Go.RowKit

/-- A leap that may be taken: its rests are of the numbers, in order, with their divisors. -/
def LeapOk (a b A1 B1 A2 B2 : Nat) (t : Bool) : Prop :=
  A1 < 4294967296 ∧ B1 < 4294967296 ∧ A2 < 4294967296 ∧ B2 < 4294967296 ∧ ∃ R1 R2 : Nat,
    (if t then B1 * b = A1 * a + R1 ∧ A2 * a = B2 * b + R2 else A1 * a = B1 * b + R1 ∧ B2 * b = A2 * a + R2) ∧ R2 ≤ R1 ∧ R1 ≤ b ∧ R2 < b ∧ Nat.gcd R1 R2 = Nat.gcd a b

def sgn (t : Bool) : Int := if t then 1 else -1

/-- One step on: the shares that were second and third are a leap that may be taken. -/
theorem leap_ok {a b X0 Y0 x y A2 B2 A3 B3 D a' b' : Nat} {t : Bool} (h : LeapInv a b X0 Y0 (sgn t) x y A2 B2 A3 B3) (ha : a = X0 * D + a') (hb : b = Y0 * D + b') (haD : a' < D) (hbD : b' < D) (hX : X0 < 18446744073709551616)
    (c1 : B3 ≤ y) (c2 : B2 + B3 ≤ x - y) (hB2 : B2 ≠ 0) : LeapOk a b A2 B2 A3 B3 (!t) := by
  have hxy : y ≤ x := by have := h.xy; omega
  have hg := leap_good (D := D) (a' := a') (b' := b') h (by rw [ha]; simp) (by rw [hb]; simp) (by omega) (by omega) (by omega) (by omega) (by omega) (by omega)
  have hs := leap_small h (by omega) (by omega)
  have hown := h.own (by omega)
  have hback := leap_back h
  have hm := h.mono
  have hl2 := h.le2 (by omega)
  have he : sgn t = 1 ∨ sgn t = -1 := h.he
  generalize hsg : sgn t = e at *
  obtain ⟨R2, hR2⟩ := Int.eq_ofNat_of_zero_le hg.1
  obtain ⟨R1, hR1⟩ := Int.eq_ofNat_of_zero_le (show 0 ≤ e * ((A2 : Int) * a - B2 * b) by omega)
  rw [hR1, hR2] at hback hg
  rw [hR1] at hown
  have hgcd := gcd_of_combos hR1.symm hR2.symm hback.1 hback.2
  refine ⟨by omega, by omega, by omega, by omega, R1, R2, ?_, by omega, by omega, by omega, hgcd⟩
  cases t with
  | true =>
    have h1 : e = 1 := by rw [← hsg]; rfl
    rw [h1, Int.one_mul] at hR1 hR2
    simp only [Bool.not_true, Bool.false_eq_true, if_false]
    exact ⟨Int.natCast_inj.1 (by push_cast; omega), Int.natCast_inj.1 (by push_cast; omega)⟩
  | false =>
    have h1 : e = -1 := by rw [← hsg]; rfl
    rw [h1] at hR1 hR2
    simp only [Bool.not_false, if_true]
    exact ⟨Int.natCast_inj.1 (by push_cast; omega), Int.natCast_inj.1 (by push_cast; omega)⟩

theorem sgn_not (t : Bool) : sgn (!t) = - sgn t := by cases t <;> rfl

/-- The shares one step on. -/
theorem leap_step {a b X0 Y0 x y A2 B2 A3 B3 D a' b' : Nat} {t : Bool} (h : LeapInv a b X0 Y0 (sgn t) x y A2 B2 A3 B3) (ha : a = X0 * D + a') (hb : b = Y0 * D + b') (haD : a' < D) (hbD : b' < D)
    (c1 : B3 ≤ y) (c2 : B2 + B3 ≤ x - y) : LeapInv a b X0 Y0 (sgn (!t)) y (remW x y : Nat) A3 B3 (A2 + quoW x y * A3 : Nat) (B2 + quoW x y * B3 : Nat) := by
  have hb3 := h.b3
  have hxy := h.xy
  have hg := leap_good (D := D) (a' := a') (b' := b') h (by rw [ha]; simp) (by rw [hb]; simp) (by omega) (by omega) (by omega) (by omega) (by omega) (by omega)
  have hy : 0 < y := by omega
  have hq : 1 ≤ x / y := (Nat.le_div_iff_mul_le hy).2 (by omega)
  have hdm := Nat.div_add_mod x y
  have hm := Nat.mod_lt x hy
  have hx : (x : Int) = ((quoW x y : Nat) : Int) * y + ((remW x y : Nat) : Int) := by
    unfold quoW remW
    rw [← Int.natCast_mul, ← Int.natCast_add, Nat.mul_comm, hdm]
  have hn := leap_next (q := (quoW x y : Nat)) (r := (remW x y : Nat)) h (by omega) hx (by omega) (by unfold remW; omega) (by unfold quoW; omega) hg.2
  rw [sgn_not]
  push_cast
  exact hn

theorem leap_init {a b X0 Y0 : Nat} (hab : Y0 ≤ X0) : LeapInv a b X0 Y0 (sgn true) X0 Y0 (1 : Nat) (0 : Nat) (0 : Nat) (1 : Nat) := by
  refine ⟨Or.inl rfl, by simp [sgn], by simp [sgn], by simp [sgn], by omega, by omega, by omega, by omega, by omega, by omega, by omega, by omega, by omega, by omega, by omega⟩

/-- Two numbers in order have heads in order. -/
theorem heads_le {a b X0 Y0 D a' b' : Nat} (ha : a = X0 * D + a') (hb : b = Y0 * D + b') (haD : a' < D) (hab : b ≤ a) : Y0 ≤ X0 := by
  apply Nat.le_of_lt_succ
  apply Nat.lt_of_mul_lt_mul_right (a := D)
  rw [Nat.succ_mul]
  omega

/-- What is added next stays below 2^64. -/
theorem leap_room {a b X0 Y0 x y A2 B2 A3 B3 : Nat} {t : Bool} (h : LeapInv a b X0 Y0 (sgn t) x y A2 B2 A3 B3) (hX : X0 < 18446744073709551616) (hy : 0 < y) (h' : LeapInv a b X0 Y0 (sgn (!t)) y (remW x y : Nat) A3 B3 (A2 + quoW x y * A3 : Nat) (B2 + quoW x y * B3 : Nat)) :
    B2 + quoW x y * B3 < 18446744073709551616 ∧ A2 + quoW x y * A3 < 18446744073709551616 := by
  have h1 := leap_next_small h' (by omega)
  have h2 := h'.le3
  have _ := h.b3
  omega
end Go.Proofs.YtafenoohjcpjgaaGreat
