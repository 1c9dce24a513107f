/- The first bits of a number; leaps. -/
import Derived.Test.YtebgkfcglmjokaaWn
import Derived.Deep.RegionHeld3
namespace Go.Proofs.Ytebgkfcglmjokaa
open Go.RowKit

/-- The first 64 bits behind so many zero bits. -/
def headN (l : List Nat) (n s : Nat) : Nat := nth l (n - 1) * 2 ^ (32 + s) + nth l (n - 2) * 2 ^ s + nth l (n - 3) / 2 ^ (32 - s)

theorem p32 {s : Nat} : 2 ^ (32 + s) = 4294967296 * 2 ^ s := by rw [Nat.pow_add]
theorem p32' {s : Nat} (hs : s < 32) : 2 ^ s * 2 ^ (32 - s) = 4294967296 := by rw [← Nat.pow_add, show s + (32 - s) = 32 by omega]

theorem headN_parts {l : List Nat} {n s : Nat} (hw : Ws l) (hs : s < 32) (htop : nth l (n - 1) * 2 ^ s < 4294967296) :
    nth l (n - 1) * 2 ^ (32 + s) < 18446744073709551616 ∧ nth l (n - 2) * 2 ^ s < 2 ^ (32 + s) ∧ nth l (n - 3) / 2 ^ (32 - s) < 2 ^ s ∧ headN l n s < 18446744073709551616 := by
  have b2 := ws_nth hw (n - 2)
  have b3 := ws_nth hw (n - 3)
  have hp : 0 < 2 ^ s := Nat.pow_pos (by omega)
  have h1 : nth l (n - 1) * 2 ^ (32 + s) = nth l (n - 1) * 2 ^ s * 4294967296 := by rw [p32]; grind
  have h2 : nth l (n - 2) * 2 ^ s < 2 ^ (32 + s) := by rw [p32]; exact Nat.mul_lt_mul_of_pos_right b2 hp
  have h3 : nth l (n - 3) / 2 ^ (32 - s) < 2 ^ s := Nat.div_lt_of_lt_mul (by rw [Nat.mul_comm, p32' hs]; exact b3)
  refine ⟨by omega, h2, h3, ?_⟩
  unfold headN
  rw [h1]
  have h4 : (nth l (n - 2) + 1) * 2 ^ s ≤ 2 ^ (32 + s) := by rw [p32]; exact Nat.mul_le_mul_right _ b2
  have hd : 2 ^ s ∣ 4294967296 := ⟨2 ^ (32 - s), (p32' hs).symm⟩
  have h5 : nth l (n - 1) * 2 ^ s + 2 ^ s ≤ 4294967296 := by
    obtain ⟨c, hc⟩ := hd
    have : nth l (n - 1) < c := Nat.lt_of_mul_lt_mul_right (a := 2 ^ s) (by rw [Nat.mul_comm c, ← hc]; exact htop)
    have := Nat.mul_le_mul_right (2 ^ s) this
    rw [Nat.succ_mul] at this
    rw [hc, Nat.mul_comm _ c]; exact this
  rw [Nat.add_mul, Nat.one_mul, p32] at h4
  have h6 := Nat.mul_le_mul_right 4294967296 h5
  rw [Nat.add_mul, Nat.mul_comm (2 ^ s) 4294967296] at h6
  omega

theorem headN_bits {l : List Nat} {n s : Nat} (hw : Ws l) (hs : s < 32) (htop : nth l (n - 1) * 2 ^ s < 4294967296) :
    bits BinOp.or IntKind.u64 (bits BinOp.or IntKind.u64 (IntKind.u64.wrap ((nth l (n - 1) : Int) * 2 ^ (32 + s))) (IntKind.u64.wrap ((nth l (n - 2) : Int) * 2 ^ s))) ((nth l (n - 3) : Int) / 2 ^ (32 - s)) = (headN l n s : Int) := by
  obtain ⟨h1, h2, h3, h4⟩ := headN_parts hw hs htop
  have b2 := ws_nth hw (n - 2)
  have h7 : 2 ^ (32 + s) ≤ 2 ^ 63 := Nat.pow_le_pow_right (by omega) (by omega)
  have h8 : 2 ^ s ≤ 2 ^ 31 := Nat.pow_le_pow_right (by omega) (by omega)
  have e1 : IntKind.u64.wrap ((nth l (n - 1) : Int) * 2 ^ (32 + s)) = ((nth l (n - 1) * 2 ^ (32 + s) : Nat) : Int) := by
    rw [show ((nth l (n - 1) : Int) * 2 ^ (32 + s)) = ((nth l (n - 1) * 2 ^ (32 + s) : Nat) : Int) by simp]
    exact IntWalk.u64_in _ (by omega)
  have e2 : IntKind.u64.wrap ((nth l (n - 2) : Int) * 2 ^ s) = ((nth l (n - 2) * 2 ^ s : Nat) : Int) := by
    rw [show ((nth l (n - 2) : Int) * 2 ^ s) = ((nth l (n - 2) * 2 ^ s : Nat) : Int) by simp]
    exact IntWalk.u64_in _ (by omega)
  have e3 : ((nth l (n - 3) : Int) / 2 ^ (32 - s)) = ((nth l (n - 3) / 2 ^ (32 - s) : Nat) : Int) := by simp
  rw [e1, e2, e3, u64_or_nat _ _ (by omega) (by omega)]
  have o1 : nth l (n - 1) * 2 ^ (32 + s) ||| nth l (n - 2) * 2 ^ s = nth l (n - 1) * 2 ^ (32 + s) + nth l (n - 2) * 2 ^ s := by
    rw [Nat.mul_comm (nth l (n - 1))]; exact (Nat.two_pow_add_eq_or_of_lt h2 _).symm
  rw [o1]
  have o2 : nth l (n - 1) * 2 ^ (32 + s) + nth l (n - 2) * 2 ^ s = 2 ^ s * (nth l (n - 1) * 4294967296 + nth l (n - 2)) := by rw [p32]; grind
  have o3 : (nth l (n - 1) * 2 ^ (32 + s) + nth l (n - 2) * 2 ^ s) ||| nth l (n - 3) / 2 ^ (32 - s) = headN l n s := by
    unfold headN
    rw [o2]; exact (Nat.two_pow_add_eq_or_of_lt h3 _).symm
  have hlt : nth l (n - 1) * 2 ^ (32 + s) + nth l (n - 2) * 2 ^ s < 18446744073709551616 := Nat.lt_of_le_of_lt (by unfold headN; exact Nat.le_add_right _ _) h4
  rw [u64_or_nat _ _ hlt (by omega), o3]

/-- The number is its head, shifted, and a rest. -/
theorem headN_val {l : List Nat} {n s : Nat} (hw : Ws l) (hs : s < 32) (hn : 3 ≤ n) (hl : l.length ≤ n) :
    ∃ r, val l = headN l n s * (4294967296 ^ (n - 3) * 2 ^ (32 - s)) + r ∧ r < 4294967296 ^ (n - 3) * 2 ^ (32 - s) := by
  obtain ⟨k, rfl⟩ : ∃ k, n = k + 3 := ⟨n - 3, by omega⟩
  have e : val l = pv l 0 k + 4294967296 ^ k * (nth l k + 4294967296 * (nth l (k + 1) + 4294967296 * nth l (k + 2))) := by
    rw [← pv_all hl, show k + 3 = k + 1 + 1 + 1 from rfl, pv_succ, pv_succ, pv_succ]
    simp only [Nat.zero_add, Nat.pow_succ]
    grind
  have h3 := Nat.mod_add_div (nth l k) (2 ^ (32 - s))
  have hp : 0 < 2 ^ (32 - s) := Nat.pow_pos (by omega)
  have hm := Nat.mod_lt (nth l k) hp
  have hlow := pv_lt hw 0 k
  refine ⟨pv l 0 k + 4294967296 ^ k * (nth l k % 2 ^ (32 - s)), ?_, ?_⟩
  · rw [e]
    unfold headN
    simp only [Nat.add_sub_cancel, show k + 3 - 1 = k + 2 from rfl, show k + 3 - 2 = k + 1 from rfl]
    have hp2 := p32' hs
    rw [p32]
    generalize 2 ^ (32 - s) = t at *
    generalize 2 ^ s = u at *
    generalize nth l k % t = d at *
    generalize nth l k / t = q at *
    generalize 4294967296 ^ k = P at *
    have e1 : nth l (k + 1) * 4294967296 = nth l (k + 1) * (u * t) := by rw [hp2]
    have e2 : nth l (k + 2) * 4294967296 = nth l (k + 2) * (u * t) := by rw [hp2]
    rw [← h3]
    grind
  · have h1 : 4294967296 ^ k * (nth l k % 2 ^ (32 - s) + 1) ≤ 4294967296 ^ k * 2 ^ (32 - s) := Nat.mul_le_mul_left _ hm
    rw [Nat.mul_add, Nat.mul_one] at h1
    simp only [Nat.add_sub_cancel]
    omega

set_option maxHeartbeats 1000000 in
theorem head_l {w : World} {v : Value} {l : List Nat} {n s : Nat} (hv : IsW w v l) (hs : s < 32) (hn : 3 ≤ n) (hn2 : n ≤ 1073741824) (htop : nth l (n - 1) * 2 ^ s < 4294967296) :
    Calls Try.prog 137 #[v, .int .i64 n, .int .i64 s] w fun e w' => e = .returned (.int .u64 (headN l n s)) ∧ ∃ k, w' = w.drewN k := by
  have HV := Lib.hid hv
  have b1 := ws_nth hv.ws (n - 1)
  have b2 := ws_nth hv.ws (n - 2)
  have b3 := ws_nth hv.ws (n - 3)
  have i1 : ((n : Int) - 1) = ((n - 1 : Nat) : Int) := by omega
  have i2 : ((n : Int) - 2) = ((n - 2 : Nat) : Int) := by omega
  have i3 : ((n : Int) - 3) = ((n - 3 : Nat) : Int) := by omega
  clear hv
  go_enter Try.func137, Try.ntmps137
  go_wp2_with fail
  go_quiet ((go_at_call 140; exact quiet_left (at_w (HV.out.drewN _) _)))
  go_wp2_with fail
  go_ret
  exact ⟨ret_int (headN_bits HV.out.ws hs htop), _, rfl⟩
/-- A share, a leap, as they lie in memory. -/
def shareV (a b : Nat) : Array Value := #[.int .u64 a, .int .u64 b]
def leapV (a1 b1 a2 b2 : Nat) (t : Bool) : Value := .agg #[.int .u64 a1, .int .u64 b1, .int .u64 a2, .int .u64 b2, .bool t]

set_option maxHeartbeats 400000 in
theorem any_l {w : World} {a1 b1 a2 b2 : Nat} {t : Bool} :
    Calls Try.prog 104 #[leapV a1 b1 a2 b2 t] w fun e w' => e = .returned (.bool (!(b1 == 0))) ∧ Below w.heap.size w w' := by
  unfold leapV
  go_enter Try.func104, Try.ntmps104
  go_wp2_with fail
  go_ret
  exact ⟨ret_bool (by rw [Bool.eq_iff_iff]; simp), (Below.refl _ _).alloc (Nat.le_refl _) _⟩

set_option maxHeartbeats 1000000 in
theorem apply_t {w : World} {u v : Value} {l m : List Nat} {a1 b1 a2 b2 N R1 R2 : Nat} (hu : IsW w u l) (hv : IsW w v m) (ha1 : a1 < 4294967296) (hb1 : b1 < 4294967296) (ha2 : a2 < 4294967296) (hb2 : b2 < 4294967296) (hN : N = max l.length m.length)
    (h1 : b1 * val m = a1 * val l + R1) (h2 : a2 * val l = b2 * val m + R2) (hR1 : R1 < 4294967296 ^ N) (hR2 : R2 < 4294967296 ^ N) :
    Calls Try.prog 105 #[leapV a1 b1 a2 b2 true, u, v] w fun e w' => (∃ r s, e = .returned (.tuple #[r, s]) ∧ IsW w' r (digs R1) ∧ IsW w' s (digs R2) ∧ (∀ b, r.ownBlock = some b → w.heap.size ≤ b) ∧ (∀ b, s.ownBlock = some b → w.heap.size ≤ b)) ∧ Below w.heap.size w w' := by
  have HU := Lib.hid hu
  have HV := Lib.hid hv
  have HN' : Hid (N = max m.length l.length) := Lib.hid (by omega)
  have HN := Lib.hid hN
  have H1 := Lib.hid h1
  have H2 := Lib.hid h2
  have HR1 := Lib.hid hR1
  have HR2 := Lib.hid hR2
  clear hu hv hN h1 h2 hR1 hR2
  unfold leapV
  go_enter Try.func105, Try.ntmps105
  go_wp2_with fail
  have hbel0 : Below w.heap.size w (w.alloc (Obj.cells #[Value.int IntKind.u64 a1, Value.int IntKind.u64 b1, Value.int IntKind.u64 a2, Value.int IntKind.u64 b2, Value.bool true] 106)) := (Below.refl _ _).alloc (Nat.le_refl _) _
  have HB0 := Lib.hid hbel0
  clear hbel0
  go_region_held3 (fun w' => w'.cell? ⟨w.heap.size, 0, none⟩ = some (.int .u64 a1) ∧ w'.cell? ⟨w.heap.size, 1, none⟩ = some (.int .u64 b1) ∧ w'.cell? ⟨w.heap.size, 2, none⟩ = some (.int .u64 a2) ∧ w'.cell? ⟨w.heap.size, 3, none⟩ = some (.int .u64 b2))
    (((try dsimp only); refine ⟨?_, ?_, ?_, ?_⟩ <;> (first | (refine cell_below ‹Below _ _ _› ?_; first | assumption | (simp [*]; done)) | go_keep)))
    (first | (go_at_call_of 138 (Value.int IntKind.u64 (a1 : Int)); refine (timesLess_l (HV.out.below HB0.out).drew (HU.out.below HB0.out).drew hb1 ha1 HN'.out H1.out HR1.out).mono ?_; rintro en w4 ⟨⟨r, rfl, hr, hro⟩, hbel4⟩) | (go_at_call 138; refine (timesLess_l ((HU.out.below HB0.out).drew.below hbel4) ((HV.out.below HB0.out).drew.below hbel4) ha2 hb2 HN.out H2.out HR2.out).mono ?_; rintro en w5 ⟨⟨s, rfl, hs, hso⟩, hbel5⟩))
  go_wp2_with fail
  go_ret2
  refine ⟨⟨r, s, rfl, hr.below hbel5, hs, fun z hz => ?_, fun z hz => ?_⟩, below_trans (below_trans HB0.out (below_undrew hbel4)) hbel5⟩
  · have := hro z hz; have := HB0.out.size; simp at this; simp at *; omega
  · have := hso z hz; have := (below_trans HB0.out (below_undrew hbel4)).size; omega
set_option maxHeartbeats 1000000 in
theorem apply_f {w : World} {u v : Value} {l m : List Nat} {a1 b1 a2 b2 N R1 R2 : Nat} (hu : IsW w u l) (hv : IsW w v m) (ha1 : a1 < 4294967296) (hb1 : b1 < 4294967296) (ha2 : a2 < 4294967296) (hb2 : b2 < 4294967296) (hN : N = max l.length m.length)
    (h1 : a1 * val l = b1 * val m + R1) (h2 : b2 * val m = a2 * val l + R2) (hR1 : R1 < 4294967296 ^ N) (hR2 : R2 < 4294967296 ^ N) :
    Calls Try.prog 105 #[leapV a1 b1 a2 b2 false, u, v] w fun e w' => (∃ r s, e = .returned (.tuple #[r, s]) ∧ IsW w' r (digs R1) ∧ IsW w' s (digs R2) ∧ (∀ b, r.ownBlock = some b → w.heap.size ≤ b) ∧ (∀ b, s.ownBlock = some b → w.heap.size ≤ b)) ∧ Below w.heap.size w w' := by
  have HU := Lib.hid hu
  have HV := Lib.hid hv
  have HN' : Hid (N = max m.length l.length) := Lib.hid (by omega)
  have HN := Lib.hid hN
  have H1 := Lib.hid h1
  have H2 := Lib.hid h2
  have HR1 := Lib.hid hR1
  have HR2 := Lib.hid hR2
  clear hu hv hN h1 h2 hR1 hR2
  unfold leapV
  go_enter Try.func105, Try.ntmps105
  go_wp2_with fail
  have hbel0 : Below w.heap.size w (w.alloc (Obj.cells #[Value.int IntKind.u64 a1, Value.int IntKind.u64 b1, Value.int IntKind.u64 a2, Value.int IntKind.u64 b2, Value.bool false] 106)) := (Below.refl _ _).alloc (Nat.le_refl _) _
  have HB0 := Lib.hid hbel0
  clear hbel0
  go_region_held3 (fun w' => w'.cell? ⟨w.heap.size, 0, none⟩ = some (.int .u64 a1) ∧ w'.cell? ⟨w.heap.size, 1, none⟩ = some (.int .u64 b1) ∧ w'.cell? ⟨w.heap.size, 2, none⟩ = some (.int .u64 a2) ∧ w'.cell? ⟨w.heap.size, 3, none⟩ = some (.int .u64 b2))
    (((try dsimp only); refine ⟨?_, ?_, ?_, ?_⟩ <;> (first | (refine cell_below ‹Below _ _ _› ?_; first | assumption | (simp [*]; done)) | go_keep)))
    (first | (go_at_call_of 138 (Value.int IntKind.u64 (a1 : Int)); refine (timesLess_l (HU.out.below HB0.out).drew (HV.out.below HB0.out).drew ha1 hb1 HN.out H1.out HR1.out).mono ?_; rintro en w4 ⟨⟨r, rfl, hr, hro⟩, hbel4⟩) | (go_at_call 138; refine (timesLess_l ((HV.out.below HB0.out).drew.below hbel4) ((HU.out.below HB0.out).drew.below hbel4) hb2 ha2 HN'.out H2.out HR2.out).mono ?_; rintro en w5 ⟨⟨s, rfl, hs, hso⟩, hbel5⟩))
  go_wp2_with fail
  go_ret2
  refine ⟨⟨r, s, rfl, hr.below hbel5, hs, fun z hz => ?_, fun z hz => ?_⟩, below_trans (below_trans HB0.out (below_undrew hbel4)) hbel5⟩
  · have := hro z hz; have := HB0.out.size; simp at this; simp at *; omega
  · have := hso z hz; have := (below_trans HB0.out (below_undrew hbel4)).size; omega
end Go.Proofs.Ytebgkfcglmjokaa
