/- Several texts in one: Wn, Wo. -/
import Derived.Test.YtimbojhmjadgkaaZ11
import Derived.Deep.RegionHeld3
/- What a leap of Euclid's algorithm computes with words. -/
namespace Go.Proofs.Ytimbojhmjadgkaa
open Go.RowKit

theorem less_step {l m M : List Nat} {k p q mo le br : Nat} (hk : k < M.length) (hb : br ≤ 1) (hv : pv M 0 k + q * pv m 0 k + 4294967296 ^ k * mo = p * pv l 0 k + 4294967296 ^ k * (le + br)) :
    pv (M.set k (subU (subU (lowW (mulS p (nth l k) 0 mo)) (lowW (mulS q (nth m k) 0 le))) br % 4294967296)) 0 (k + 1) + q * pv m 0 (k + 1) + 4294967296 ^ (k + 1) * (mulS p (nth l k) 0 mo / 4294967296) =
      p * pv l 0 (k + 1) + 4294967296 ^ (k + 1) * (mulS q (nth m k) 0 le / 4294967296 + subU (subU (lowW (mulS p (nth l k) 0 mo)) (lowW (mulS q (nth m k) 0 le))) br / 9223372036854775808) := by
  have h1 : lowW (mulS p (nth l k) 0 mo) < 4294967296 := Nat.mod_lt _ (by omega)
  have h2 : lowW (mulS q (nth m k) 0 le) < 4294967296 := Nat.mod_lt _ (by omega)
  have h := (subU_word _ _ br h1 h2 hb).1
  have g1 := Nat.mod_add_div (mulS p (nth l k) 0 mo) 4294967296
  have g2 := Nat.mod_add_div (mulS q (nth m k) 0 le) 4294967296
  have e := pv_set M 0 k (subU (subU (lowW (mulS p (nth l k) 0 mo)) (lowW (mulS q (nth m k) 0 le))) br % 4294967296) (by omega)
  rw [Nat.zero_add] at e
  rw [e, pv_succ, pv_succ, Nat.zero_add, Nat.pow_succ]
  generalize subU (subU (lowW (mulS p (nth l k) 0 mo)) (lowW (mulS q (nth m k) 0 le))) br / 9223372036854775808 = t at *
  generalize subU (subU (lowW (mulS p (nth l k) 0 mo)) (lowW (mulS q (nth m k) 0 le))) br % 4294967296 = d at *
  unfold lowW at h
  generalize mulS p (nth l k) 0 mo / 4294967296 = u1 at *
  generalize mulS p (nth l k) 0 mo % 4294967296 = d1 at *
  generalize mulS q (nth m k) 0 le / 4294967296 = u2 at *
  generalize mulS q (nth m k) 0 le % 4294967296 = d2 at *
  unfold mulS at g1 g2
  generalize 4294967296 ^ k = P at *
  have e1 : P * (d + d2 + br) = P * (d1 + 4294967296 * t) := by rw [h]
  have e2 : P * (d1 + 4294967296 * u1) = P * (mo + (p * nth l k + 0)) := by rw [g1]
  have e3 : P * (d2 + 4294967296 * u2) = P * (le + (q * nth m k + 0)) := by rw [g2]
  grind

theorem less_end {l m M : List Nat} {N p q mo le br R : Nat} (hM : Ws M) (hlen : M.length = N) (hl : l.length ≤ N) (hm : m.length ≤ N) (hv : pv M 0 N + q * pv m 0 N + 4294967296 ^ N * mo = p * pv l 0 N + 4294967296 ^ N * (le + br))
    (hR : p * val l = q * val m + R) (hRN : R < 4294967296 ^ N) : val M = R := by
  rw [pv_eq_val hlen, pv_all hl, pv_all hm, hR] at hv
  have h1 := val_lt hM
  rw [hlen] at h1
  generalize 4294967296 ^ N = P at *
  have h2 : val M + P * mo = R + P * (le + br) := by omega
  have h3 := congrArg (· % P) h2
  simp only [Nat.add_mul_mod_self_left] at h3
  rwa [Nat.mod_eq_of_lt h1, Nat.mod_eq_of_lt hRN] at h3

set_option maxHeartbeats 1000000 in
theorem timesLess_l {w : World} {u v : Value} {l m : List Nat} {p q N R : Nat} (hu : IsW w u l) (hv : IsW w v m) (hp : p < 4294967296) (hq : q < 4294967296) (hN : N = max l.length m.length) (hR : p * val l = q * val m + R) (hRN : R < 4294967296 ^ N) :
    Calls Try.prog 80 #[u, .int .u64 p, v, .int .u64 q] w fun e w' => (∃ r, e = .returned r ∧ IsW w' r (digs R) ∧ (∀ b, r.ownBlock = some b → w.heap.size ≤ b)) ∧ Below w.heap.size w w' := by
  have HU := Lib.hid hu
  have HV := Lib.hid hv
  have hNl : N ≤ 1073741824 ∧ l.length ≤ N ∧ m.length ≤ N := ⟨by have := hu.len; have := hv.len; omega, by omega, by omega⟩
  have HNM := Lib.hid hN
  have HR := Lib.hid hR
  have HRN := Lib.hid hRN
  obtain ⟨a, cap, rfl, i1, i2, i3, i4, i5⟩ := hu
  obtain ⟨b, bcap, rfl, k1, k2, k3, k4, k5⟩ := hv
  have hmx : max (l.length : Int) (m.length : Int) = (N : Int) := by omega
  obtain ⟨n1, n2, n3⟩ := hNl
  clear i3 i4 i5 k3 k4 k5 hN hR hRN
  go_enter Try.func80, Try.ntmps80
  go_wp2_with (at_make; refine wpList_make_words' rfl _ _ _ _ rfl uw iu32 N _ _ rfl rfl (by omega) (by omega) (by omega) ?_; intro w1 hb1 hbel hs1; refine halt ?_)
  all_goals
    refine go_on ?_
    go_wp2_with fail
    go_loopw [10, 11, 12, 23] (fun mo le br i wr => ∃ (k mon len brn : Nat) (M : List Nat), k ≤ N ∧ i = .int .i64 k ∧ mo = .int .u64 mon ∧ le = .int .u64 len ∧ br = .int .u64 brn ∧ mon < 4294967296 ∧ len < 4294967296 ∧ brn ≤ 1 ∧ Blk wr w.heap.size 62 M ∧ Hid (Ws M) ∧ Hid (M.length = N) ∧ Below w.heap.size w wr ∧
        Hid (pv M 0 k + q * pv m 0 k + 4294967296 ^ k * mon = p * pv l 0 k + 4294967296 ^ k * (len + brn))) (fun _ _ _ i _ => N - (intOf i).toNat)
    case atStart => exact ⟨0, 0, 0, 0, _, Nat.zero_le _, rfl, rfl, rfl, rfl, by omega, by omega, by omega, hb1, Lib.hid (ws_replicate _), Lib.hid (by simp), hbel, Lib.hid (by simp [pv_zero])⟩
    case round =>
      obtain ⟨k, mo, le, br, M, hk, rfl, rfl, rfl, rfl, hmo, hle, hbr, hM, hMw, hMl, hon, hval⟩ := hrel
      by_cases hkn : k < N
      · have hx := ws_nth HU.out.ws k
        have hy := ws_nth HV.out.ws k
        have hcellM := hM.cell k (by have := hMl.out; omega)
        have hfree := hM.free k
        have w1 := mulS_wrap1 hp hx
        have w2 := mulS_wrap3 hp hx (show 0 < 4294967296 by omega) hmo
        have w3 := mulS_lt hp hx (show 0 < 4294967296 by omega) hmo
        have w4 := lowW_and _ w3
        have w5 := mulS_wrap1 hq hy
        have w6 := mulS_wrap3 hq hy (show 0 < 4294967296 by omega) hle
        have w7 := mulS_lt hq hy (show 0 < 4294967296 by omega) hle
        have w8 := lowW_and _ w7
        have hl1 : lowW (mulS p (nth l k) 0 mo) < 4294967296 := Nat.mod_lt _ (by omega)
        have hl2 : lowW (mulS q (nth m k) 0 le) < 4294967296 := Nat.mod_lt _ (by omega)
        have w9 := subU_wrap (lowW (mulS p (nth l k) 0 mo)) (lowW (mulS q (nth m k) 0 le)) (by omega) (by omega)
        have w10 := subU_wrap (subU (lowW (mulS p (nth l k) 0 mo)) (lowW (mulS q (nth m k) 0 le))) br (subU_lt _ _) (by omega)
        have w11 := subU_lt (subU (lowW (mulS p (nth l k) 0 mo)) (lowW (mulS q (nth m k) 0 le))) br
        go_wp2_with fail
        refine (at_w (HU.out.below hon) k).mono ?_
        rintro en w2 ⟨rfl, rfl⟩
        go_wp2_with fail
        refine (at_w (HV.out.below hon) k).mono ?_
        rintro en w2 ⟨rfl, rfl⟩
        go_wp2_with fail
        go_roundw
        case rel =>
          have hw := subU_word _ _ br hl1 hl2 hbr
          exact ⟨k + 1, mulS p (nth l k) 0 mo / 4294967296, mulS q (nth m k) 0 le / 4294967296, subU (subU (lowW (mulS p (nth l k) 0 mo)) (lowW (mulS q (nth m k) 0 le))) br / 9223372036854775808,
            M.set k (subU (subU (lowW (mulS p (nth l k) 0 mo)) (lowW (mulS q (nth m k) 0 le))) br % 4294967296), by omega, by go_num, by go_num, by go_num, by go_num, by omega, by omega, hw.2,
            hM.setCell k _ _ (by unfold U; go_num), Lib.hid (ws_set hMw.out _ (by omega)), Lib.hid (by rw [List.length_set]; exact hMl.out), hon.setCell (Nat.le_refl _) _, Lib.hid (less_step (by have := hMl.out; omega) hbr hval.out)⟩
        case measure => simp [intOf]; omega
      · obtain rfl : k = N := by omega
        have hMv : Hid (val M = R) := Lib.hid (less_end hMw.out hMl.out n2 n3 hval.out HR.out HRN.out)
        have hI := hM.isW_all hMw.out k (by have := hMl.out; omega) (by have := hMl.out; omega)
        rw [hMl.out] at hI
        have HI := Lib.hid hI
        clear hI
        go_wp2_with fail
        refine (trim_d HI.out hMv.out).mono ?_
        rintro en w4 ⟨⟨r, rfl, hr, hown⟩, rfl⟩
        go_wp2_with fail
        go_ret
        refine ⟨⟨r, rfl, hr, fun x hx => ?_⟩, hon⟩
        have := hown x hx
        simp [Value.ownBlock] at this
        omega
end Go.Proofs.Ytimbojhmjadgkaa

/- The first bits of a number; leaps. -/
namespace Go.Proofs.Ytimbojhmjadgkaa
open Go.RowKit

/-- The first 64 bits behind so many zero bits. -/
def headN (l : List Nat) (n s : Nat) : Nat := nth l (n - 1) * 2 ^ (32 + s) + nth l (n - 2) * 2 ^ s + nth l (n - 3) / 2 ^ (32 - s)

theorem p32 {s : Nat} : 2 ^ (32 + s) = 4294967296 * 2 ^ s := by rw [Nat.pow_add]
theorem p32' {s : Nat} (hs : s < 32) : 2 ^ s * 2 ^ (32 - s) = 4294967296 := by rw [← Nat.pow_add, show s + (32 - s) = 32 by omega]

theorem headN_parts {l : List Nat} {n s : Nat} (hw : Ws l) (hs : s < 32) (htop : nth l (n - 1) * 2 ^ s < 4294967296) :
    nth l (n - 1) * 2 ^ (32 + s) < 18446744073709551616 ∧ nth l (n - 2) * 2 ^ s < 2 ^ (32 + s) ∧ nth l (n - 3) / 2 ^ (32 - s) < 2 ^ s ∧ headN l n s < 18446744073709551616 := by
  have b2 := ws_nth hw (n - 2)
  have b3 := ws_nth hw (n - 3)
  have hp : 0 < 2 ^ s := Nat.pow_pos (by omega)
  have h1 : nth l (n - 1) * 2 ^ (32 + s) = nth l (n - 1) * 2 ^ s * 4294967296 := by rw [p32]; grind
  have h2 : nth l (n - 2) * 2 ^ s < 2 ^ (32 + s) := by rw [p32]; exact Nat.mul_lt_mul_of_pos_right b2 hp
  have h3 : nth l (n - 3) / 2 ^ (32 - s) < 2 ^ s := Nat.div_lt_of_lt_mul (by rw [Nat.mul_comm, p32' hs]; exact b3)
  refine ⟨by omega, h2, h3, ?_⟩
  unfold headN
  rw [h1]
  have h4 : (nth l (n - 2) + 1) * 2 ^ s ≤ 2 ^ (32 + s) := by rw [p32]; exact Nat.mul_le_mul_right _ b2
  have hd : 2 ^ s ∣ 4294967296 := ⟨2 ^ (32 - s), (p32' hs).symm⟩
  have h5 : nth l (n - 1) * 2 ^ s + 2 ^ s ≤ 4294967296 := by
    obtain ⟨c, hc⟩ := hd
    have : nth l (n - 1) < c := Nat.lt_of_mul_lt_mul_right (a := 2 ^ s) (by rw [Nat.mul_comm c, ← hc]; exact htop)
    have := Nat.mul_le_mul_right (2 ^ s) this
    rw [Nat.succ_mul] at this
    rw [hc, Nat.mul_comm _ c]; exact this
  rw [Nat.add_mul, Nat.one_mul, p32] at h4
  have h6 := Nat.mul_le_mul_right 4294967296 h5
  rw [Nat.add_mul, Nat.mul_comm (2 ^ s) 4294967296] at h6
  omega

theorem headN_bits {l : List Nat} {n s : Nat} (hw : Ws l) (hs : s < 32) (htop : nth l (n - 1) * 2 ^ s < 4294967296) :
    bits BinOp.or IntKind.u64 (bits BinOp.or IntKind.u64 (IntKind.u64.wrap ((nth l (n - 1) : Int) * 2 ^ (32 + s))) (IntKind.u64.wrap ((nth l (n - 2) : Int) * 2 ^ s))) ((nth l (n - 3) : Int) / 2 ^ (32 - s)) = (headN l n s : Int) := by
  obtain ⟨h1, h2, h3, h4⟩ := headN_parts hw hs htop
  have b2 := ws_nth hw (n - 2)
  have h7 : 2 ^ (32 + s) ≤ 2 ^ 63 := Nat.pow_le_pow_right (by omega) (by omega)
  have h8 : 2 ^ s ≤ 2 ^ 31 := Nat.pow_le_pow_right (by omega) (by omega)
  have e1 : IntKind.u64.wrap ((nth l (n - 1) : Int) * 2 ^ (32 + s)) = ((nth l (n - 1) * 2 ^ (32 + s) : Nat) : Int) := by
    rw [show ((nth l (n - 1) : Int) * 2 ^ (32 + s)) = ((nth l (n - 1) * 2 ^ (32 + s) : Nat) : Int) by simp]
    exact IntWalk.u64_in _ (by omega)
  have e2 : IntKind.u64.wrap ((nth l (n - 2) : Int) * 2 ^ s) = ((nth l (n - 2) * 2 ^ s : Nat) : Int) := by
    rw [show ((nth l (n - 2) : Int) * 2 ^ s) = ((nth l (n - 2) * 2 ^ s : Nat) : Int) by simp]
    exact IntWalk.u64_in _ (by omega)
  have e3 : ((nth l (n - 3) : Int) / 2 ^ (32 - s)) = ((nth l (n - 3) / 2 ^ (32 - s) : Nat) : Int) := by simp
  rw [e1, e2, e3, u64_or_nat _ _ (by omega) (by omega)]
  have o1 : nth l (n - 1) * 2 ^ (32 + s) ||| nth l (n - 2) * 2 ^ s = nth l (n - 1) * 2 ^ (32 + s) + nth l (n - 2) * 2 ^ s := by
    rw [Nat.mul_comm (nth l (n - 1))]; exact (Nat.two_pow_add_eq_or_of_lt h2 _).symm
  rw [o1]
  have o2 : nth l (n - 1) * 2 ^ (32 + s) + nth l (n - 2) * 2 ^ s = 2 ^ s * (nth l (n - 1) * 4294967296 + nth l (n - 2)) := by rw [p32]; grind
  have o3 : (nth l (n - 1) * 2 ^ (32 + s) + nth l (n - 2) * 2 ^ s) ||| nth l (n - 3) / 2 ^ (32 - s) = headN l n s := by
    unfold headN
    rw [o2]; exact (Nat.two_pow_add_eq_or_of_lt h3 _).symm
  have hlt : nth l (n - 1) * 2 ^ (32 + s) + nth l (n - 2) * 2 ^ s < 18446744073709551616 := Nat.lt_of_le_of_lt (by unfold headN; exact Nat.le_add_right _ _) h4
  rw [u64_or_nat _ _ hlt (by omega), o3]

/-- The number is its head, shifted, and a rest. -/
theorem headN_val {l : List Nat} {n s : Nat} (hw : Ws l) (hs : s < 32) (hn : 3 ≤ n) (hl : l.length ≤ n) :
    ∃ r, val l = headN l n s * (4294967296 ^ (n - 3) * 2 ^ (32 - s)) + r ∧ r < 4294967296 ^ (n - 3) * 2 ^ (32 - s) := by
  obtain ⟨k, rfl⟩ : ∃ k, n = k + 3 := ⟨n - 3, by omega⟩
  have e : val l = pv l 0 k + 4294967296 ^ k * (nth l k + 4294967296 * (nth l (k + 1) + 4294967296 * nth l (k + 2))) := by
    rw [← pv_all hl, show k + 3 = k + 1 + 1 + 1 from rfl, pv_succ, pv_succ, pv_succ]
    simp only [Nat.zero_add, Nat.pow_succ]
    grind
  have h3 := Nat.mod_add_div (nth l k) (2 ^ (32 - s))
  have hp : 0 < 2 ^ (32 - s) := Nat.pow_pos (by omega)
  have hm := Nat.mod_lt (nth l k) hp
  have hlow := pv_lt hw 0 k
  refine ⟨pv l 0 k + 4294967296 ^ k * (nth l k % 2 ^ (32 - s)), ?_, ?_⟩
  · rw [e]
    unfold headN
    simp only [Nat.add_sub_cancel, show k + 3 - 1 = k + 2 from rfl, show k + 3 - 2 = k + 1 from rfl]
    have hp2 := p32' hs
    rw [p32]
    generalize 2 ^ (32 - s) = t at *
    generalize 2 ^ s = u at *
    generalize nth l k % t = d at *
    generalize nth l k / t = q at *
    generalize 4294967296 ^ k = P at *
    have e1 : nth l (k + 1) * 4294967296 = nth l (k + 1) * (u * t) := by rw [hp2]
    have e2 : nth l (k + 2) * 4294967296 = nth l (k + 2) * (u * t) := by rw [hp2]
    rw [← h3]
    grind
  · have h1 : 4294967296 ^ k * (nth l k % 2 ^ (32 - s) + 1) ≤ 4294967296 ^ k * 2 ^ (32 - s) := Nat.mul_le_mul_left _ hm
    rw [Nat.mul_add, Nat.mul_one] at h1
    simp only [Nat.add_sub_cancel]
    omega

set_option maxHeartbeats 1000000 in
theorem head_l {w : World} {v : Value} {l : List Nat} {n s : Nat} (hv : IsW w v l) (hs : s < 32) (hn : 3 ≤ n) (hn2 : n ≤ 1073741824) (htop : nth l (n - 1) * 2 ^ s < 4294967296) :
    Calls Try.prog 79 #[v, .int .i64 n, .int .i64 s] w fun e w' => e = .returned (.int .u64 (headN l n s)) ∧ ∃ k, w' = w.drewN k := by
  have HV := Lib.hid hv
  have b1 := ws_nth hv.ws (n - 1)
  have b2 := ws_nth hv.ws (n - 2)
  have b3 := ws_nth hv.ws (n - 3)
  have i1 : ((n : Int) - 1) = ((n - 1 : Nat) : Int) := by omega
  have i2 : ((n : Int) - 2) = ((n - 2 : Nat) : Int) := by omega
  have i3 : ((n : Int) - 3) = ((n - 3 : Nat) : Int) := by omega
  clear hv
  go_enter Try.func79, Try.ntmps79
  go_wp2_with fail
  go_quiet ((go_at_call 83; exact quiet_left (at_w (HV.out.drewN _) _)))
  go_wp2_with fail
  go_ret
  exact ⟨ret_int (headN_bits HV.out.ws hs htop), _, rfl⟩
/-- A share, a leap, as they lie in memory. -/
def shareV (a b : Nat) : Array Value := #[.int .u64 a, .int .u64 b]
def leapV (a1 b1 a2 b2 : Nat) (t : Bool) : Value := .agg #[.int .u64 a1, .int .u64 b1, .int .u64 a2, .int .u64 b2, .bool t]

set_option maxHeartbeats 400000 in
theorem any_l {w : World} {a1 b1 a2 b2 : Nat} {t : Bool} :
    Calls Try.prog 68 #[leapV a1 b1 a2 b2 t] w fun e w' => e = .returned (.bool (!(b1 == 0))) ∧ Below w.heap.size w w' := by
  unfold leapV
  go_enter Try.func68, Try.ntmps68
  go_wp2_with fail
  go_ret
  exact ⟨ret_bool (by rw [Bool.eq_iff_iff]; simp), (Below.refl _ _).alloc (Nat.le_refl _) _⟩

set_option maxHeartbeats 1000000 in
theorem apply_t {w : World} {u v : Value} {l m : List Nat} {a1 b1 a2 b2 N R1 R2 : Nat} (hu : IsW w u l) (hv : IsW w v m) (ha1 : a1 < 4294967296) (hb1 : b1 < 4294967296) (ha2 : a2 < 4294967296) (hb2 : b2 < 4294967296) (hN : N = max l.length m.length)
    (h1 : b1 * val m = a1 * val l + R1) (h2 : a2 * val l = b2 * val m + R2) (hR1 : R1 < 4294967296 ^ N) (hR2 : R2 < 4294967296 ^ N) :
    Calls Try.prog 69 #[leapV a1 b1 a2 b2 true, u, v] w fun e w' => (∃ r s, e = .returned (.tuple #[r, s]) ∧ IsW w' r (digs R1) ∧ IsW w' s (digs R2) ∧ (∀ b, r.ownBlock = some b → w.heap.size ≤ b) ∧ (∀ b, s.ownBlock = some b → w.heap.size ≤ b)) ∧ Below w.heap.size w w' := by
  have HU := Lib.hid hu
  have HV := Lib.hid hv
  have HN' : Hid (N = max m.length l.length) := Lib.hid (by omega)
  have HN := Lib.hid hN
  have H1 := Lib.hid h1
  have H2 := Lib.hid h2
  have HR1 := Lib.hid hR1
  have HR2 := Lib.hid hR2
  clear hu hv hN h1 h2 hR1 hR2
  unfold leapV
  go_enter Try.func69, Try.ntmps69
  go_wp2_with fail
  have hbel0 : Below w.heap.size w (w.alloc (Obj.cells #[Value.int IntKind.u64 a1, Value.int IntKind.u64 b1, Value.int IntKind.u64 a2, Value.int IntKind.u64 b2, Value.bool true] 88)) := (Below.refl _ _).alloc (Nat.le_refl _) _
  have HB0 := Lib.hid hbel0
  clear hbel0
  go_region_held3 (fun w' => w'.cell? ⟨w.heap.size, 0, none⟩ = some (.int .u64 a1) ∧ w'.cell? ⟨w.heap.size, 1, none⟩ = some (.int .u64 b1) ∧ w'.cell? ⟨w.heap.size, 2, none⟩ = some (.int .u64 a2) ∧ w'.cell? ⟨w.heap.size, 3, none⟩ = some (.int .u64 b2))
    (((try dsimp only); refine ⟨?_, ?_, ?_, ?_⟩ <;> (first | (refine cell_below ‹Below _ _ _› ?_; first | assumption | (simp [*]; done)) | go_keep)))
    (first | (go_at_call_of 80 (Value.int IntKind.u64 (a1 : Int)); refine (timesLess_l (HV.out.below HB0.out).drew (HU.out.below HB0.out).drew hb1 ha1 HN'.out H1.out HR1.out).mono ?_; rintro en w4 ⟨⟨r, rfl, hr, hro⟩, hbel4⟩) | (go_at_call 80; refine (timesLess_l ((HU.out.below HB0.out).drew.below hbel4) ((HV.out.below HB0.out).drew.below hbel4) ha2 hb2 HN.out H2.out HR2.out).mono ?_; rintro en w5 ⟨⟨s, rfl, hs, hso⟩, hbel5⟩))
  go_wp2_with fail
  go_ret2
  refine ⟨⟨r, s, rfl, hr.below hbel5, hs, fun z hz => ?_, fun z hz => ?_⟩, below_trans (below_trans HB0.out (below_undrew hbel4)) hbel5⟩
  · have := hro z hz; have := HB0.out.size; simp at this; simp at *; omega
  · have := hso z hz; have := (below_trans HB0.out (below_undrew hbel4)).size; omega
set_option maxHeartbeats 1000000 in
theorem apply_f {w : World} {u v : Value} {l m : List Nat} {a1 b1 a2 b2 N R1 R2 : Nat} (hu : IsW w u l) (hv : IsW w v m) (ha1 : a1 < 4294967296) (hb1 : b1 < 4294967296) (ha2 : a2 < 4294967296) (hb2 : b2 < 4294967296) (hN : N = max l.length m.length)
    (h1 : a1 * val l = b1 * val m + R1) (h2 : b2 * val m = a2 * val l + R2) (hR1 : R1 < 4294967296 ^ N) (hR2 : R2 < 4294967296 ^ N) :
    Calls Try.prog 69 #[leapV a1 b1 a2 b2 false, u, v] w fun e w' => (∃ r s, e = .returned (.tuple #[r, s]) ∧ IsW w' r (digs R1) ∧ IsW w' s (digs R2) ∧ (∀ b, r.ownBlock = some b → w.heap.size ≤ b) ∧ (∀ b, s.ownBlock = some b → w.heap.size ≤ b)) ∧ Below w.heap.size w w' := by
  have HU := Lib.hid hu
  have HV := Lib.hid hv
  have HN' : Hid (N = max m.length l.length) := Lib.hid (by omega)
  have HN := Lib.hid hN
  have H1 := Lib.hid h1
  have H2 := Lib.hid h2
  have HR1 := Lib.hid hR1
  have HR2 := Lib.hid hR2
  clear hu hv hN h1 h2 hR1 hR2
  unfold leapV
  go_enter Try.func69, Try.ntmps69
  go_wp2_with fail
  have hbel0 : Below w.heap.size w (w.alloc (Obj.cells #[Value.int IntKind.u64 a1, Value.int IntKind.u64 b1, Value.int IntKind.u64 a2, Value.int IntKind.u64 b2, Value.bool false] 88)) := (Below.refl _ _).alloc (Nat.le_refl _) _
  have HB0 := Lib.hid hbel0
  clear hbel0
  go_region_held3 (fun w' => w'.cell? ⟨w.heap.size, 0, none⟩ = some (.int .u64 a1) ∧ w'.cell? ⟨w.heap.size, 1, none⟩ = some (.int .u64 b1) ∧ w'.cell? ⟨w.heap.size, 2, none⟩ = some (.int .u64 a2) ∧ w'.cell? ⟨w.heap.size, 3, none⟩ = some (.int .u64 b2))
    (((try dsimp only); refine ⟨?_, ?_, ?_, ?_⟩ <;> (first | (refine cell_below ‹Below _ _ _› ?_; first | assumption | (simp [*]; done)) | go_keep)))
    (first | (go_at_call_of 80 (Value.int IntKind.u64 (a1 : Int)); refine (timesLess_l (HU.out.below HB0.out).drew (HV.out.below HB0.out).drew ha1 hb1 HN.out H1.out HR1.out).mono ?_; rintro en w4 ⟨⟨r, rfl, hr, hro⟩, hbel4⟩) | (go_at_call 80; refine (timesLess_l ((HV.out.below HB0.out).drew.below hbel4) ((HU.out.below HB0.out).drew.below hbel4) hb2 ha2 HN'.out H2.out HR2.out).mono ?_; rintro en w5 ⟨⟨s, rfl, hs, hso⟩, hbel5⟩))
  go_wp2_with fail
  go_ret2
  refine ⟨⟨r, s, rfl, hr.below hbel5, hs, fun z hz => ?_, fun z hz => ?_⟩, below_trans (below_trans HB0.out (below_undrew hbel4)) hbel5⟩
  · have := hro z hz; have := HB0.out.size; simp at this; simp at *; omega
  · have := hso z hz; have := (below_trans HB0.out (below_undrew hbel4)).size; omega
end Go.Proofs.Ytimbojhmjadgkaa
