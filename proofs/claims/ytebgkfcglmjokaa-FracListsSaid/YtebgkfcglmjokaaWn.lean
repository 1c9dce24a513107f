/- What a leap of Euclid's algorithm computes with words. -/
import Derived.Test.YtebgkfcglmjokaaWm
import Derived.Test.YtebgkfcglmjokaaLm
namespace Go.Proofs.Ytebgkfcglmjokaa
open Go.RowKit

theorem less_step {l m M : List Nat} {k p q mo le br : Nat} (hk : k < M.length) (hb : br ≤ 1) (hv : pv M 0 k + q * pv m 0 k + 4294967296 ^ k * mo = p * pv l 0 k + 4294967296 ^ k * (le + br)) :
    pv (M.set k (subU (subU (lowW (mulS p (nth l k) 0 mo)) (lowW (mulS q (nth m k) 0 le))) br % 4294967296)) 0 (k + 1) + q * pv m 0 (k + 1) + 4294967296 ^ (k + 1) * (mulS p (nth l k) 0 mo / 4294967296) =
      p * pv l 0 (k + 1) + 4294967296 ^ (k + 1) * (mulS q (nth m k) 0 le / 4294967296 + subU (subU (lowW (mulS p (nth l k) 0 mo)) (lowW (mulS q (nth m k) 0 le))) br / 9223372036854775808) := by
  have h1 : lowW (mulS p (nth l k) 0 mo) < 4294967296 := Nat.mod_lt _ (by omega)
  have h2 : lowW (mulS q (nth m k) 0 le) < 4294967296 := Nat.mod_lt _ (by omega)
  have h := (subU_word _ _ br h1 h2 hb).1
  have g1 := Nat.mod_add_div (mulS p (nth l k) 0 mo) 4294967296
  have g2 := Nat.mod_add_div (mulS q (nth m k) 0 le) 4294967296
  have e := pv_set M 0 k (subU (subU (lowW (mulS p (nth l k) 0 mo)) (lowW (mulS q (nth m k) 0 le))) br % 4294967296) (by omega)
  rw [Nat.zero_add] at e
  rw [e, pv_succ, pv_succ, Nat.zero_add, Nat.pow_succ]
  generalize subU (subU (lowW (mulS p (nth l k) 0 mo)) (lowW (mulS q (nth m k) 0 le))) br / 9223372036854775808 = t at *
  generalize subU (subU (lowW (mulS p (nth l k) 0 mo)) (lowW (mulS q (nth m k) 0 le))) br % 4294967296 = d at *
  unfold lowW at h
  generalize mulS p (nth l k) 0 mo / 4294967296 = u1 at *
  generalize mulS p (nth l k) 0 mo % 4294967296 = d1 at *
  generalize mulS q (nth m k) 0 le / 4294967296 = u2 at *
  generalize mulS q (nth m k) 0 le % 4294967296 = d2 at *
  unfold mulS at g1 g2
  generalize 4294967296 ^ k = P at *
  have e1 : P * (d + d2 + br) = P * (d1 + 4294967296 * t) := by rw [h]
  have e2 : P * (d1 + 4294967296 * u1) = P * (mo + (p * nth l k + 0)) := by rw [g1]
  have e3 : P * (d2 + 4294967296 * u2) = P * (le + (q * nth m k + 0)) := by rw [g2]
  grind

theorem less_end {l m M : List Nat} {N p q mo le br R : Nat} (hM : Ws M) (hlen : M.length = N) (hl : l.length ≤ N) (hm : m.length ≤ N) (hv : pv M 0 N + q * pv m 0 N + 4294967296 ^ N * mo = p * pv l 0 N + 4294967296 ^ N * (le + br))
    (hR : p * val l = q * val m + R) (hRN : R < 4294967296 ^ N) : val M = R := by
  rw [pv_eq_val hlen, pv_all hl, pv_all hm, hR] at hv
  have h1 := val_lt hM
  rw [hlen] at h1
  generalize 4294967296 ^ N = P at *
  have h2 : val M + P * mo = R + P * (le + br) := by omega
  have h3 := congrArg (· % P) h2
  simp only [Nat.add_mul_mod_self_left] at h3
  rwa [Nat.mod_eq_of_lt h1, Nat.mod_eq_of_lt hRN] at h3

set_option maxHeartbeats 1000000 in
theorem timesLess_l {w : World} {u v : Value} {l m : List Nat} {p q N R : Nat} (hu : IsW w u l) (hv : IsW w v m) (hp : p < 4294967296) (hq : q < 4294967296) (hN : N = max l.length m.length) (hR : p * val l = q * val m + R) (hRN : R < 4294967296 ^ N) :
    Calls Try.prog 138 #[u, .int .u64 p, v, .int .u64 q] w fun e w' => (∃ r, e = .returned r ∧ IsW w' r (digs R) ∧ (∀ b, r.ownBlock = some b → w.heap.size ≤ b)) ∧ Below w.heap.size w w' := by
  have HU := Lib.hid hu
  have HV := Lib.hid hv
  have hNl : N ≤ 1073741824 ∧ l.length ≤ N ∧ m.length ≤ N := ⟨by have := hu.len; have := hv.len; omega, by omega, by omega⟩
  have HNM := Lib.hid hN
  have HR := Lib.hid hR
  have HRN := Lib.hid hRN
  obtain ⟨a, cap, rfl, i1, i2, i3, i4, i5⟩ := hu
  obtain ⟨b, bcap, rfl, k1, k2, k3, k4, k5⟩ := hv
  have hmx : max (l.length : Int) (m.length : Int) = (N : Int) := by omega
  obtain ⟨n1, n2, n3⟩ := hNl
  clear i3 i4 i5 k3 k4 k5 hN hR hRN
  go_enter Try.func138, Try.ntmps138
  go_wp2_with (at_make; refine wpList_make_words' rfl _ _ _ _ rfl uw iu32 N _ _ rfl rfl (by omega) (by omega) (by omega) ?_; intro w1 hb1 hbel hs1; refine halt ?_)
  all_goals
    refine go_on ?_
    go_wp2_with fail
    go_loopw [10, 11, 12, 23] (fun mo le br i wr => ∃ (k mon len brn : Nat) (M : List Nat), k ≤ N ∧ i = .int .i64 k ∧ mo = .int .u64 mon ∧ le = .int .u64 len ∧ br = .int .u64 brn ∧ mon < 4294967296 ∧ len < 4294967296 ∧ brn ≤ 1 ∧ Blk wr w.heap.size 40 M ∧ Hid (Ws M) ∧ Hid (M.length = N) ∧ Below w.heap.size w wr ∧
        Hid (pv M 0 k + q * pv m 0 k + 4294967296 ^ k * mon = p * pv l 0 k + 4294967296 ^ k * (len + brn))) (fun _ _ _ i _ => N - (intOf i).toNat)
    case atStart => exact ⟨0, 0, 0, 0, _, Nat.zero_le _, rfl, rfl, rfl, rfl, by omega, by omega, by omega, hb1, Lib.hid (ws_replicate _), Lib.hid (by simp), hbel, Lib.hid (by simp [pv_zero])⟩
    case round =>
      obtain ⟨k, mo, le, br, M, hk, rfl, rfl, rfl, rfl, hmo, hle, hbr, hM, hMw, hMl, hon, hval⟩ := hrel
      by_cases hkn : k < N
      · have hx := ws_nth HU.out.ws k
        have hy := ws_nth HV.out.ws k
        have hcellM := hM.cell k (by have := hMl.out; omega)
        have hfree := hM.free k
        have w1 := mulS_wrap1 hp hx
        have w2 := mulS_wrap3 hp hx (show 0 < 4294967296 by omega) hmo
        have w3 := mulS_lt hp hx (show 0 < 4294967296 by omega) hmo
        have w4 := lowW_and _ w3
        have w5 := mulS_wrap1 hq hy
        have w6 := mulS_wrap3 hq hy (show 0 < 4294967296 by omega) hle
        have w7 := mulS_lt hq hy (show 0 < 4294967296 by omega) hle
        have w8 := lowW_and _ w7
        have hl1 : lowW (mulS p (nth l k) 0 mo) < 4294967296 := Nat.mod_lt _ (by omega)
        have hl2 : lowW (mulS q (nth m k) 0 le) < 4294967296 := Nat.mod_lt _ (by omega)
        have w9 := subU_wrap (lowW (mulS p (nth l k) 0 mo)) (lowW (mulS q (nth m k) 0 le)) (by omega) (by omega)
        have w10 := subU_wrap (subU (lowW (mulS p (nth l k) 0 mo)) (lowW (mulS q (nth m k) 0 le))) br (subU_lt _ _) (by omega)
        have w11 := subU_lt (subU (lowW (mulS p (nth l k) 0 mo)) (lowW (mulS q (nth m k) 0 le))) br
        go_wp2_with fail
        refine (at_w (HU.out.below hon) k).mono ?_
        rintro en w2 ⟨rfl, rfl⟩
        go_wp2_with fail
        refine (at_w (HV.out.below hon) k).mono ?_
        rintro en w2 ⟨rfl, rfl⟩
        go_wp2_with fail
        go_roundw
        case rel =>
          have hw := subU_word _ _ br hl1 hl2 hbr
          exact ⟨k + 1, mulS p (nth l k) 0 mo / 4294967296, mulS q (nth m k) 0 le / 4294967296, subU (subU (lowW (mulS p (nth l k) 0 mo)) (lowW (mulS q (nth m k) 0 le))) br / 9223372036854775808,
            M.set k (subU (subU (lowW (mulS p (nth l k) 0 mo)) (lowW (mulS q (nth m k) 0 le))) br % 4294967296), by omega, by go_num, by go_num, by go_num, by go_num, by omega, by omega, hw.2,
            hM.setCell k _ _ (by unfold U; go_num), Lib.hid (ws_set hMw.out _ (by omega)), Lib.hid (by rw [List.length_set]; exact hMl.out), hon.setCell (Nat.le_refl _) _, Lib.hid (less_step (by have := hMl.out; omega) hbr hval.out)⟩
        case measure => simp [intOf]; omega
      · obtain rfl : k = N := by omega
        have hMv : Hid (val M = R) := Lib.hid (less_end hMw.out hMl.out n2 n3 hval.out HR.out HRN.out)
        have hI := hM.isW_all hMw.out k (by have := hMl.out; omega) (by have := hMl.out; omega)
        rw [hMl.out] at hI
        have HI := Lib.hid hI
        clear hI
        go_wp2_with fail
        refine (trim_d HI.out hMv.out).mono ?_
        rintro en w4 ⟨⟨r, rfl, hr, hown⟩, rfl⟩
        go_wp2_with fail
        go_ret
        refine ⟨⟨r, rfl, hr, fun x hx => ?_⟩, hon⟩
        have := hown x hx
        simp [Value.ownBlock] at this
        omega
end Go.Proofs.Ytebgkfcglmjokaa
