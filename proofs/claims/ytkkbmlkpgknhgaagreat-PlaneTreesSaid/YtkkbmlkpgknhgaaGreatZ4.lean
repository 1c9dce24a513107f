import Derived.Test.YtkkbmlkpgknhgaaGreatZ3
import Derived.Deep.RegionHeld3
import Derived.Test.YtkkbmlkpgknhgaaGreatZ1
import Derived.Laws.CopyRow
import Derived.Laws.Rows
import Derived.Deep.LoopGhost
set_option maxRecDepth 100000
set_option maxHeartbeats 16000000
namespace Go.Proofs.YtkkbmlkpgknhgaaGreat
open Go.RowKit
variable {A r u v : Value} {A2 A3 B B2 B3 C D N R1 R2 X0 Y0 a a' a1 a2 b b' b1 b2 c n q s x y : Nat} {l m : List Nat} {t : Bool} {w w' wr : World} {z : Int}
def d8q (l : List Nat) (n s : Nat) : Nat := nth l (n - 1) * 2 ^ (32 + s) + nth l (n - 2) * 2 ^ s + nth l (n - 3) / 2 ^ (32 - s)

theorem p32 : 2 ^ (32 + s) = 4294967296 * 2 ^ s := by rw [Nat.pow_add]
theorem x5k (hs : s < 32) : 2 ^ s * 2 ^ (32 - s) = 4294967296 := by rw [← Nat.pow_add, show s + (32 - s) = 32 by omega]

theorem j0z (hw : Ws l) (hs : s < 32) (htop : nth l (n - 1) * 2 ^ s < 4294967296) :
  nth l (n - 1) * 2 ^ (32 + s) < 18446744073709551616 ∧ nth l (n - 2) * 2 ^ s < 2 ^ (32 + s) ∧ nth l (n - 3) / 2 ^ (32 - s) < 2 ^ s ∧ d8q l n s < 18446744073709551616 := by
 have b2 := y1q hw (n - 2)
 have b3 := y1q hw (n - 3)
 have hp : 0 < 2 ^ s := Nat.pow_pos (by omega)
 have h1 : nth l (n - 1) * 2 ^ (32 + s) = nth l (n - 1) * 2 ^ s * 4294967296 := by rw [p32]; grind
 have h2 : nth l (n - 2) * 2 ^ s < 2 ^ (32 + s) := by rw [p32]; exact Nat.mul_lt_mul_of_pos_right b2 hp
 have h3 : nth l (n - 3) / 2 ^ (32 - s) < 2 ^ s := Nat.div_lt_of_lt_mul (by rw [Nat.mul_comm, x5k hs]; exact b3)
 refine ⟨by omega, h2, h3, ?_⟩
 unfold d8q
 rw [h1]
 have h4 : (nth l (n - 2) + 1) * 2 ^ s ≤ 2 ^ (32 + s) := by rw [p32]; exact Nat.mul_le_mul_right _ b2
 have hd : 2 ^ s ∣ 4294967296 := ⟨2 ^ (32 - s), (x5k hs).symm⟩
 have h5 : nth l (n - 1) * 2 ^ s + 2 ^ s ≤ 4294967296 := by
  obtain ⟨c, hc⟩ := hd
  have : nth l (n - 1) < c := Nat.lt_of_mul_lt_mul_right (a := 2 ^ s) (by rw [Nat.mul_comm c, ← hc]; exact htop)
  have := Nat.mul_le_mul_right (2 ^ s) this
  rw [Nat.succ_mul] at this
  rw [hc, Nat.mul_comm _ c]; exact this
 rw [Nat.add_mul, Nat.one_mul, p32] at h4
 have h6 := Nat.mul_le_mul_right 4294967296 h5
 rw [Nat.add_mul, Nat.mul_comm (2 ^ s) 4294967296] at h6
 omega

theorem u1x (hw : Ws l) (hs : s < 32) (htop : nth l (n - 1) * 2 ^ s < 4294967296) :
  bits BinOp.or IntKind.u64 (bits BinOp.or IntKind.u64 (IntKind.u64.wrap ((nth l (n - 1) : Int) * 2 ^ (32 + s))) (IntKind.u64.wrap ((nth l (n - 2) : Int) * 2 ^ s))) ((nth l (n - 3) : Int) / 2 ^ (32 - s)) = (d8q l n s : Int) := by
 obtain ⟨h1, h2, h3, h4⟩ := j0z hw hs htop
 have b2 := y1q hw (n - 2)
 have h7 : 2 ^ (32 + s) ≤ 2 ^ 63 := Nat.pow_le_pow_right (by omega) (by omega)
 have h8 : 2 ^ s ≤ 2 ^ 31 := Nat.pow_le_pow_right (by omega) (by omega)
 have e1 : IntKind.u64.wrap ((nth l (n - 1) : Int) * 2 ^ (32 + s)) = ((nth l (n - 1) * 2 ^ (32 + s) : Nat) : Int) := by
  rw [show ((nth l (n - 1) : Int) * 2 ^ (32 + s)) = ((nth l (n - 1) * 2 ^ (32 + s) : Nat) : Int) by simp]
  exact IntWalk.u64_in _ (by omega)
 have e2 : IntKind.u64.wrap ((nth l (n - 2) : Int) * 2 ^ s) = ((nth l (n - 2) * 2 ^ s : Nat) : Int) := by
  rw [show ((nth l (n - 2) : Int) * 2 ^ s) = ((nth l (n - 2) * 2 ^ s : Nat) : Int) by simp]
  exact IntWalk.u64_in _ (by omega)
 have e3 : ((nth l (n - 3) : Int) / 2 ^ (32 - s)) = ((nth l (n - 3) / 2 ^ (32 - s) : Nat) : Int) := by simp
 rw [e1, e2, e3, u64_or_nat _ _ (by omega) (by omega)]
 have o1 : nth l (n - 1) * 2 ^ (32 + s) ||| nth l (n - 2) * 2 ^ s = nth l (n - 1) * 2 ^ (32 + s) + nth l (n - 2) * 2 ^ s := by
  rw [Nat.mul_comm (nth l (n - 1))]; exact (Nat.two_pow_add_eq_or_of_lt h2 _).symm
 rw [o1]
 have o2 : nth l (n - 1) * 2 ^ (32 + s) + nth l (n - 2) * 2 ^ s = 2 ^ s * (nth l (n - 1) * 4294967296 + nth l (n - 2)) := by rw [p32]; grind
 have o3 : (nth l (n - 1) * 2 ^ (32 + s) + nth l (n - 2) * 2 ^ s) ||| nth l (n - 3) / 2 ^ (32 - s) = d8q l n s := by
  unfold d8q
  rw [o2]; exact (Nat.two_pow_add_eq_or_of_lt h3 _).symm
 have hlt : nth l (n - 1) * 2 ^ (32 + s) + nth l (n - 2) * 2 ^ s < 18446744073709551616 := Nat.lt_of_le_of_lt (by unfold d8q; exact Nat.le_add_right _ _) h4
 rw [u64_or_nat _ _ hlt (by omega), o3]

theorem y0x (hw : Ws l) (hs : s < 32) (hn : 3 ≤ n) (hl : l.length ≤ n) :
  ∃ r, val l = d8q l n s * (4294967296 ^ (n - 3) * 2 ^ (32 - s)) + r ∧ r < 4294967296 ^ (n - 3) * 2 ^ (32 - s) := by
 obtain ⟨k, rfl⟩ : ∃ k, n = k + 3 := ⟨n - 3, by omega⟩
 have e : val l = pv l 0 k + 4294967296 ^ k * (nth l k + 4294967296 * (nth l (k + 1) + 4294967296 * nth l (k + 2))) := by
  rw [← w4q hl, show k + 3 = k + 1 + 1 + 1 from rfl, v2q, v2q, v2q]
  simp only [Nat.zero_add, Nat.pow_succ]
  grind
 have h3 := Nat.mod_add_div (nth l k) (2 ^ (32 - s))
 have hp : 0 < 2 ^ (32 - s) := Nat.pow_pos (by omega)
 have hm := Nat.mod_lt (nth l k) hp
 have hlow := l2q hw 0 k
 refine ⟨pv l 0 k + 4294967296 ^ k * (nth l k % 2 ^ (32 - s)), ?_, ?_⟩
 ·
  rw [e]
  unfold d8q
  simp only [Nat.add_sub_cancel, show k + 3 - 1 = k + 2 from rfl, show k + 3 - 2 = k + 1 from rfl]
  have hp2 := x5k hs
  rw [p32]
  generalize 2 ^ (32 - s) = t at *
  generalize 2 ^ s = u at *
  generalize nth l k % t = d at *
  generalize nth l k / t = q at *
  generalize 4294967296 ^ k = P at *
  have e1 : nth l (k + 1) * 4294967296 = nth l (k + 1) * (u * t) := by rw [hp2]
  have e2 : nth l (k + 2) * 4294967296 = nth l (k + 2) * (u * t) := by rw [hp2]
  rw [← h3]
  grind
 ·
  have h1 : 4294967296 ^ k * (nth l k % 2 ^ (32 - s) + 1) ≤ 4294967296 ^ k * 2 ^ (32 - s) := Nat.mul_le_mul_left _ hm
  rw [Nat.mul_add, Nat.mul_one] at h1
  simp only [Nat.add_sub_cancel]
  omega

theorem u6h (hv : IsW w v l) (hs : s < 32) (hn : 3 ≤ n) (hn2 : n ≤ 1073741824) (htop : nth l (n - 1) * 2 ^ s < 4294967296) :
  Calls Tryz.prog 147 #[v, .int .i64 n, .int .i64 s] w fun e w' => e = .returned (.int .u64 (d8q l n s)) ∧ ∃ k, w' = w.drewN k := by
 have HV := hdd hv
 have b1 := y1q hv.ws (n - 1)
 have b2 := y1q hv.ws (n - 2)
 have b3 := y1q hv.ws (n - 3)
 have i1 : ((n : Int) - 1) = ((n - 1 : Nat) : Int) := by omega
 have i2 : ((n : Int) - 2) = ((n - 2 : Nat) : Int) := by omega
 have i3 : ((n : Int) - 3) = ((n - 3 : Nat) : Int) := by omega
 clear hv
 go_enter Tryz.func147, Tryz.ntmps147
 go_wp2_with fail
 go_quiet ((go_at_call 152; exact q3k (q5y (HV.o.drewN _) _)))
 go_wp2_with fail
 go_ret
 exact ⟨g4q (u1x HV.o.ws hs htop), _, rfl⟩
def q0w (a1 b1 a2 b2 : Nat) (t : Bool) : Value := .agg #[.int .u64 a1, .int .u64 b1, .int .u64 a2, .int .u64 b2, .bool t]

theorem y3y :
  Calls Tryz.prog 125 #[q0w a1 b1 a2 b2 t] w fun e w' => e = .returned (.bool (!(b1 == 0))) ∧ Below w.heap.size w w' := by
 unfold q0w
 go_enter Tryz.func125, Tryz.ntmps125
 go_wp2_with fail
 go_ret
 exact ⟨d1q (by rw [Bool.eq_iff_iff]; simp), (qb).alloc qm _⟩

theorem g0v (hu : IsW w u l) (hv : IsW w v m) (ha1 : a1 < 4294967296) (hb1 : b1 < 4294967296) (ha2 : a2 < 4294967296) (hb2 : b2 < 4294967296) (hN : N = max l.length m.length)
  (h1 : b1 * val m = a1 * val l + R1) (h2 : a2 * val l = b2 * val m + R2) (hR1 : R1 < 4294967296 ^ N) (hR2 : R2 < 4294967296 ^ N) :
  Calls Tryz.prog 126 #[q0w a1 b1 a2 b2 true, u, v] w fun e w' => (∃ r s, e = .returned (.tuple #[r, s]) ∧ IsW w' r (q2q R1) ∧ IsW w' s (q2q R2) ∧ (∀ b, r.ownBlock = some b → w.heap.size ≤ b) ∧ (∀ b, s.ownBlock = some b → w.heap.size ≤ b)) ∧ Below w.heap.size w w' := by
 have HU := hdd hu
 have HV := hdd hv
 have HN' : Hi (N = max m.length l.length) := hdd (by omega)
 have HN := hdd hN
 have H1 := hdd h1
 have H2 := hdd h2
 have HR1 := hdd hR1
 have HR2 := hdd hR2
 clear hu hv hN h1 h2 hR1 hR2
 unfold q0w
 go_enter Tryz.func126, Tryz.ntmps126
 go_wp2_with fail
 have hbel0 : Below w.heap.size w (w.alloc (Obj.cells #[.int IntKind.u64 a1, .int IntKind.u64 b1, .int IntKind.u64 a2, .int IntKind.u64 b2, .bool true] 135)) := (qb).alloc qm _
 have HB0 := hdd hbel0
 clear hbel0
 go_region_held3 (fun w' => w'.cell? ⟨w.heap.size, 0, none⟩ = some (.int .u64 a1) ∧ w'.cell? ⟨w.heap.size, 1, none⟩ = some (.int .u64 b1) ∧ w'.cell? ⟨w.heap.size, 2, none⟩ = some (.int .u64 a2) ∧ w'.cell? ⟨w.heap.size, 3, none⟩ = some (.int .u64 b2))
  (((try dsimp only); refine ⟨?_, ?_, ?_, ?_⟩ <;> (first | (refine q3q ‹Below _ _ _› ?_; first | assumption | (simp [*]; done)) | go_keep)))
  (first | (go_at_call_of 148 (Value.int IntKind.u64 (a1 : Int)); refine (q1j (HV.o.below HB0.o).drew (HU.o.below HB0.o).drew hb1 ha1 HN'.o H1.o HR1.o).mono ?_; rintro en w4 ⟨⟨r, rfl, hr, hro⟩, hbel4⟩) | (go_at_call 148; refine (q1j ((HU.o.below HB0.o).drew.below hbel4) ((HV.o.below HB0.o).drew.below hbel4) ha2 hb2 HN.o H2.o HR2.o).mono ?_; rintro en w5 ⟨⟨s, rfl, hs, hso⟩, hbel5⟩))
 go_wp2_with fail
 go_ret2
 refine ⟨⟨r, s, rfl, hr.below hbel5, hs, fun z hz => ?_, fun z hz => ?_⟩, q0q (q0q HB0.o (u2q hbel4)) hbel5⟩
 ·
  have := hro z hz; have := HB0.o.size; simp at this; simp at *; omega
 ·
  have := hso z hz; have := (q0q HB0.o (u2q hbel4)).size; omega
theorem g0y (hu : IsW w u l) (hv : IsW w v m) (ha1 : a1 < 4294967296) (hb1 : b1 < 4294967296) (ha2 : a2 < 4294967296) (hb2 : b2 < 4294967296) (hN : N = max l.length m.length)
  (h1 : a1 * val l = b1 * val m + R1) (h2 : b2 * val m = a2 * val l + R2) (hR1 : R1 < 4294967296 ^ N) (hR2 : R2 < 4294967296 ^ N) :
  Calls Tryz.prog 126 #[q0w a1 b1 a2 b2 false, u, v] w fun e w' => (∃ r s, e = .returned (.tuple #[r, s]) ∧ IsW w' r (q2q R1) ∧ IsW w' s (q2q R2) ∧ (∀ b, r.ownBlock = some b → w.heap.size ≤ b) ∧ (∀ b, s.ownBlock = some b → w.heap.size ≤ b)) ∧ Below w.heap.size w w' := by
 have HU := hdd hu
 have HV := hdd hv
 have HN' : Hi (N = max m.length l.length) := hdd (by omega)
 have HN := hdd hN
 have H1 := hdd h1
 have H2 := hdd h2
 have HR1 := hdd hR1
 have HR2 := hdd hR2
 clear hu hv hN h1 h2 hR1 hR2
 unfold q0w
 go_enter Tryz.func126, Tryz.ntmps126
 go_wp2_with fail
 have hbel0 : Below w.heap.size w (w.alloc (Obj.cells #[.int IntKind.u64 a1, .int IntKind.u64 b1, .int IntKind.u64 a2, .int IntKind.u64 b2, .bool false] 135)) := (qb).alloc qm _
 have HB0 := hdd hbel0
 clear hbel0
 go_region_held3 (fun w' => w'.cell? ⟨w.heap.size, 0, none⟩ = some (.int .u64 a1) ∧ w'.cell? ⟨w.heap.size, 1, none⟩ = some (.int .u64 b1) ∧ w'.cell? ⟨w.heap.size, 2, none⟩ = some (.int .u64 a2) ∧ w'.cell? ⟨w.heap.size, 3, none⟩ = some (.int .u64 b2))
  (((try dsimp only); refine ⟨?_, ?_, ?_, ?_⟩ <;> (first | (refine q3q ‹Below _ _ _› ?_; first | assumption | (simp [*]; done)) | go_keep)))
  (first | (go_at_call_of 148 (Value.int IntKind.u64 (a1 : Int)); refine (q1j (HU.o.below HB0.o).drew (HV.o.below HB0.o).drew ha1 hb1 HN.o H1.o HR1.o).mono ?_; rintro en w4 ⟨⟨r, rfl, hr, hro⟩, hbel4⟩) | (go_at_call 148; refine (q1j ((HV.o.below HB0.o).drew.below hbel4) ((HU.o.below HB0.o).drew.below hbel4) hb2 ha2 HN'.o H2.o HR2.o).mono ?_; rintro en w5 ⟨⟨s, rfl, hs, hso⟩, hbel5⟩))
 go_wp2_with fail
 go_ret2
 refine ⟨⟨r, s, rfl, hr.below hbel5, hs, fun z hz => ?_, fun z hz => ?_⟩, q0q (q0q HB0.o (u2q hbel4)) hbel5⟩
 ·
  have := hro z hz; have := HB0.o.size; simp at this; simp at *; omega
 ·
  have := hso z hz; have := (q0q HB0.o (u2q hbel4)).size; omega
def q4h (a b A1 B1 A2 B2 : Nat) (t : Bool) : Prop :=
 A1 < 4294967296 ∧ B1 < 4294967296 ∧ A2 < 4294967296 ∧ B2 < 4294967296 ∧ ∃ R1 R2 : Nat,
  (if t then B1 * b = A1 * a + R1 ∧ A2 * a = B2 * b + R2 else A1 * a = B1 * b + R1 ∧ B2 * b = A2 * a + R2) ∧ R2 ≤ R1 ∧ R1 ≤ b ∧ R2 < b ∧ Nat.gcd R1 R2 = Nat.gcd a b

def sgn (t : Bool) : Int := if t then 1 else -1

theorem g1v (h : m2q a b X0 Y0 (sgn t) x y A2 B2 A3 B3) (ha : a = X0 * D + a') (hb : b = Y0 * D + b') (haD : a' < D) (hbD : b' < D) (hX : X0 < 18446744073709551616)
  (c1 : B3 ≤ y) (c2 : B2 + B3 ≤ x - y) (hB2 : B2 ≠ 0) : q4h a b A2 B2 A3 B3 (!t) := by
 have hxy : y ≤ x := by have := h.xy; omega
 have hg := y1j (D := D) (a' := a') (b' := b') h (by rw [ha]; simp) (by rw [hb]; simp) (by omega) (by omega) (by omega) (by omega) (by omega) (by omega)
 have hs := z5v h (by omega) (by omega)
 have hown := h.own (by omega)
 have hback := u7x h
 have hm := h.mono
 have hl2 := h.le2 (by omega)
 have he : sgn t = 1 ∨ sgn t = -1 := h.he
 generalize hsg : sgn t = e at *
 obtain ⟨R2, hR2⟩ := Int.eq_ofNat_of_zero_le hg.1
 obtain ⟨R1, hR1⟩ := Int.eq_ofNat_of_zero_le (show 0 ≤ e * ((A2 : Int) * a - B2 * b) by omega)
 rw [hR1, hR2] at hback hg
 rw [hR1] at hown
 have hgcd := y2h hR1.symm hR2.symm hback.1 hback.2
 refine ⟨by omega, by omega, by omega, by omega, R1, R2, ?_, by omega, by omega, by omega, hgcd⟩
 cases t with
 | true =>
  have h1 : e = 1 := by rw [← hsg]; rfl
  rw [h1, Int.one_mul] at hR1 hR2
  simp only [Bool.not_true, Bool.false_eq_true, if_false]
  exact ⟨Int.natCast_inj.1 (by push_cast; omega), Int.natCast_inj.1 (by push_cast; omega)⟩
 | false =>
  have h1 : e = -1 := by rw [← hsg]; rfl
  rw [h1] at hR1 hR2
  simp only [Bool.not_false, if_true]
  exact ⟨Int.natCast_inj.1 (by push_cast; omega), Int.natCast_inj.1 (by push_cast; omega)⟩

theorem g3w (t : Bool) : sgn (!t) = - sgn t := by cases t <;> rfl

theorem u8j (h : m2q a b X0 Y0 (sgn t) x y A2 B2 A3 B3) (ha : a = X0 * D + a') (hb : b = Y0 * D + b') (haD : a' < D) (hbD : b' < D)
  (c1 : B3 ≤ y) (c2 : B2 + B3 ≤ x - y) : m2q a b X0 Y0 (sgn (!t)) y (b3q x y : Nat) A3 B3 (A2 + x4q x y * A3 : Nat) (B2 + x4q x y * B3 : Nat) := by
 have hb3 := h.b3
 have hxy := h.xy
 have hg := y1j (D := D) (a' := a') (b' := b') h (by rw [ha]; simp) (by rw [hb]; simp) (by omega) (by omega) (by omega) (by omega) (by omega) (by omega)
 have hy : 0 < y := by omega
 have hq : 1 ≤ x / y := (Nat.le_div_iff_mul_le hy).2 (by omega)
 have hdm := Nat.div_add_mod x y
 have hm := Nat.mod_lt x hy
 have hx : (x : Int) = ((x4q x y : Nat) : Int) * y + ((b3q x y : Nat) : Int) := by
  unfold x4q b3q
  rw [← Int.natCast_mul, ← Int.natCast_add, Nat.mul_comm, hdm]
 have hn := u7w (q := (x4q x y : Nat)) (r := (b3q x y : Nat)) h (by omega) hx (by omega) (by unfold b3q; omega) (by unfold x4q; omega) hg.2
 rw [g3w]
 push_cast
 exact hn

theorem u7k (hab : Y0 ≤ X0) : m2q a b X0 Y0 (sgn true) X0 Y0 (1 : Nat) (0 : Nat) (0 : Nat) (1 : Nat) := by
 refine ⟨Or.inl rfl, by simp [sgn], by simp [sgn], by simp [sgn], by omega, by omega, by omega, by omega, by omega, by omega, by omega, by omega, by omega, by omega, by omega⟩

theorem x4j (ha : a = X0 * D + a') (hb : b = Y0 * D + b') (haD : a' < D) (hab : b ≤ a) : Y0 ≤ X0 := by
 apply Nat.le_of_lt_succ
 apply Nat.lt_of_mul_lt_mul_right (a := D)
 rw [Nat.succ_mul]
 omega

theorem u7h (h : m2q a b X0 Y0 (sgn t) x y A2 B2 A3 B3) (hX : X0 < 18446744073709551616) (hy : 0 < y) (h' : m2q a b X0 Y0 (sgn (!t)) y (b3q x y : Nat) A3 B3 (A2 + x4q x y * A3 : Nat) (B2 + x4q x y * B3 : Nat)) :
  B2 + x4q x y * B3 < 18446744073709551616 ∧ A2 + x4q x y * A3 < 18446744073709551616 := by
 have h1 := z5y h' (by omega)
 have h2 := h'.le3
 have _ := h.b3
 omega
theorem j9q {P : Program} {ops : Array Oper} {rest : List Oper} {dst : Option Tmp} {type : TypeId} {pos : String} {after : Array Edge} {guard : Option (Nat × Bool)} {ty : TypeId} {x y : Operand} {a : Act} {Q : Exit → Act → World → Prop}
  (h : wpList P ops Q (⟨dst, .store ty x y, type, pos, after, guard⟩ :: rest) a w) : wpList P ops Q (⟨dst, .store ty x y, type, pos, after, guard⟩ :: rest) a w := h
theorem q6w {P : Program} (w : World) (g : Nat) (t ty : TypeId) (cur vs : Array Value) (hg : w.heap[g]? = some (.cells cur t (0, 0))) (hi : (P.info? ty).map (·.size) = some vs.size) (hs : vs.size = cur.size) (h1 : ∀ v ∈ vs.toList, v.oneCell' = true) :
  (storeVar ty ⟨g, 0, none⟩ (.agg vs)).run P w = .ok () (w.setRow g vs) := by
 have h := run_storeCells_at (P := P) g 0 t vs.toList 0 cur w hg (by simp; omega) h1
 have e : (cur.toList.take (0 + 0) ++ vs.toList ++ cur.toList.drop (0 + 0 + vs.toList.length)).toArray = vs := by
  have e0 : cur.toList.drop (0 + 0 + vs.toList.length) = [] := List.drop_eq_nil_of_le (by simp; omega)
  rw [e0]; simp
 rw [e] at h
 cases hq : P.info? ty with
 | none => simp [hq] at hi
 | some i =>
  have hsz : i.size = vs.size := by simpa [hq] using hi
  simp [storeVar, Sem.run_bind, sizeOf, typeInfo, hq, hsz, Value.cells, h]

theorem q6q {P : Program} {ops : Array Oper} {rest : List Oper} {o : Oper} {a : Act} {Q : Exit → Act → World → Prop} (hgd : o.guard = none) (ty : TypeId) (x y : Operand) (ho : o.op = .store ty x y)
  (g : Nat) (hx : a.eval x = .pointer (some ⟨g, 0, none⟩)) (vs : Array Value) (hy : a.eval y = .agg vs) (t : TypeId) (cur : Array Value) (hg : w.heap[g]? = some (.cells cur t (0, 0)))
  (hi : (P.info? ty).map (·.size) = some vs.size) (hs : vs.size = cur.size) (h1 : ∀ v ∈ vs.toList, v.oneCell' = true)
  (h : ∀ w', w'.heap[g]? = some (.cells vs t (0, 0)) → z9q g w w' → wpList P ops Q rest (a.put o.dst undef) w') : wpList P ops Q (o :: rest) a w := by
 refine wpList_plain hgd fun K hK => ?_
 unfold Oper.wp execOp
 have hr := q6w (P := P) w g t ty cur vs hg hi hs h1
 simp only [ho, hx, hy, Instr.storeAt, Instr.sureAddr, Sem.run_bind, Sem.run_pure, Result.andThen_ok, hr]
 exact hK _ _ (h _ (setRow_heap w g cur vs t _ hg) ⟨rfl, rfl, rfl, by simp [World.setRow], fun k hk => setRow_other w g k _ hk⟩)
def At5 (w : World) (B : Nat) (a1 b1 a2 b2 : Nat) (t : Bool) : Prop := w.heap[B]? = some (.cells #[.int .u64 a1, .int .u64 b1, .int .u64 a2, .int .u64 b2, .bool t] 135 (0, 0))
def At2 (w : World) (B : Nat) (a b : Nat) : Prop := w.heap[B]? = some (.cells #[.int .u64 a, .int .u64 b] 133 (0, 0))

theorem z4h : (Tryz.prog.info? 135).map (·.size) = some 5 := by kernel_rfl
theorem u7y : (Tryz.prog.info? 133).map (·.size) = some 2 := by kernel_rfl
theorem z1h : ∀ v ∈ (#[.int .u64 a1, .int .u64 b1, .int .u64 a2, .int .u64 b2, .bool t] : Array Value).toList, v.oneCell' = true := by
 intro v hv; simp at hv; rcases hv with rfl | rfl | rfl | rfl | rfl <;> rfl
theorem y2y : ∀ v ∈ (#[.int .u64 a, .int .u64 b] : Array Value).toList, v.oneCell' = true := by
 intro v hv; simp at hv; rcases hv with rfl | rfl <;> rfl

theorem At5.alloc (h : At5 w B a1 b1 a2 b2 t) (o : Obj) : At5 (w.alloc o) B a1 b1 a2 b2 t := by
 unfold At5; rw [Below.heap_alloc _ _ _ (lt_of_block h)]; exact h
theorem At2.alloc (h : At2 w B a b) (o : Obj) : At2 (w.alloc o) B a b := by
 unfold At2; rw [Below.heap_alloc _ _ _ (lt_of_block h)]; exact h
theorem At5.only (h : At5 w B a1 b1 a2 b2 t) (ho : z9q C w w') (hne : B ≠ C) : At5 w' B a1 b1 a2 b2 t := by
 unfold At5; rw [ho.block B hne]; exact h
theorem At2.only (h : At2 w B a b) (ho : z9q C w w') (hne : B ≠ C) : At2 w' B a b := by
 unfold At2; rw [ho.block B hne]; exact h
theorem At5.cells (h : At5 w B a1 b1 a2 b2 t) :
  w.cell? ⟨B, 0, none⟩ = some (.int .u64 a1) ∧ w.cell? ⟨B, 1, none⟩ = some (.int .u64 b1) ∧ w.cell? ⟨B, 2, none⟩ = some (.int .u64 a2) ∧ w.cell? ⟨B, 3, none⟩ = some (.int .u64 b2) ∧ w.cell? ⟨B, 4, none⟩ = some (.bool t) := by
 have h' : w.heap[B]? = some (.cells #[.int .u64 a1, .int .u64 b1, .int .u64 a2, .int .u64 b2, .bool t] 135 (0, 0)) := h
 simp [World.cell?, h']
theorem At5.free (h : At5 w B a1 b1 a2 b2 t) (j : Nat) : w.frozen? ⟨B, j, none⟩ = false := by
 have h' : w.heap[B]? = some (.cells #[.int .u64 a1, .int .u64 b1, .int .u64 a2, .int .u64 b2, .bool t] 135 (0, 0)) := h
 simp [World.frozen?, h']
theorem At2.cells (h : At2 w B a b) : w.cell? ⟨B, 0, none⟩ = some (.int .u64 a) ∧ w.cell? ⟨B, 1, none⟩ = some (.int .u64 b) := by
 have h' : w.heap[B]? = some (.cells #[.int .u64 a, .int .u64 b] 133 (0, 0)) := h
 simp [World.cell?, h']
theorem At2.free (h : At2 w B a b) (j : Nat) : w.frozen? ⟨B, j, none⟩ = false := by
 have h' : w.heap[B]? = some (.cells #[.int .u64 a, .int .u64 b] 133 (0, 0)) := h
 simp [World.frozen?, h']

def z2z (q a : Nat) : Nat := q * a
def maN (c q a : Nat) : Nat := c + q * a
theorem y1y (h : maN c q a < 18446744073709551616) : IntKind.u64.wrap ((q : Int) * (a : Int)) = (z2z q a : Int) := by
 have e : (q : Int) * (a : Int) = (z2z q a : Int) := by unfold z2z; simp
 rw [e]; unfold maN at h; unfold z2z; exact IntWalk.u64_in _ (by omega)
theorem y6x (h : maN c q a < 18446744073709551616) : IntKind.u64.wrap ((c : Int) + (z2z q a : Int)) = (maN c q a : Int) := by
 have e : (c : Int) + (z2z q a : Int) = (maN c q a : Int) := by unfold z2z maN; simp
 rw [e]; exact IntWalk.u64_in _ (by omega)

def x2h (w : World) (a b : Nat) (e : Ending) (w' : World) : Prop :=
 (∃ (a1 b1 a2 b2 : Nat) (t : Bool), e = .returned (q0w a1 b1 a2 b2 t) ∧ (b1 ≠ 0 → q4h a b a1 b1 a2 b2 t)) ∧ Below w.heap.size w w'

theorem k0k (hl : l.length = n) (hm : m.length ≤ n) (hn : 0 < n) (hw : Ws l) (hle : val m ≤ val l) : nth m (n - 1) ≤ nth l (n - 1) := by
 have e1 : val l = pv l 0 (n - 1) + 4294967296 ^ (n - 1) * nth l (n - 1) := by
  have := v2q l 0 (n - 1)
  rwa [Nat.sub_add_cancel hn, Nat.zero_add, y8q hl] at this
 have e2 : val m = pv m 0 (n - 1) + 4294967296 ^ (n - 1) * nth m (n - 1) := by
  have := v2q m 0 (n - 1)
  rwa [Nat.sub_add_cancel hn, Nat.zero_add, w4q hm] at this
 have h1 := l2q hw 0 (n - 1)
 apply Nat.le_of_lt_succ
 apply Nat.lt_of_mul_lt_mul_left (a := 4294967296 ^ (n - 1))
 rw [Nat.mul_succ]
 omega

theorem v2x (hx : l = q2q x) (hy : m = q2q y) (hn : l.length = n) (hm : m.length ≤ n) (h3 : 3 ≤ n) (hs : s < 32) (hle : y ≤ x) (htop : nth l (n - 1) * 2 ^ s < 4294967296) :
  nth m (n - 1) * 2 ^ s < 4294967296 ∧ d8q l n s < 18446744073709551616 ∧ d8q m n s < 18446744073709551616 ∧ d8q m n s ≤ d8q l n s ∧ ∃ D a' b', x = d8q l n s * D + a' ∧ y = d8q m n s * D + b' ∧ a' < D ∧ b' < D := by
 have hl : Ws l := by rw [hx]; exact s5q _
 have hmw : Ws m := by rw [hy]; exact s5q _
 have vl : val l = x := by rw [hx, j6q]
 have vm : val m = y := by rw [hy, j6q]
 have ht := k0k hn hm (by omega) hl (by omega)
 have htm : nth m (n - 1) * 2 ^ s < 4294967296 := Nat.lt_of_le_of_lt (Nat.mul_le_mul_right _ ht) htop
 obtain ⟨a', ha, haD⟩ := y0x hl hs h3 (by omega)
 obtain ⟨b', hb, hbD⟩ := y0x hmw hs h3 hm
 rw [vl] at ha
 rw [vm] at hb
 exact ⟨htm, (j0z hl hs htop).2.2.2, (j0z hmw hs htm).2.2.2, x4j ha hb haD hle, _, a', b', ha, hb, haD, hbD⟩

theorem z4k (hx : l = q2q x) (hy : m = q2q y) (hu : IsW w u l) (hv : IsW w v m) (h3 : 3 ≤ m.length) (hle : y ≤ x) :
  Calls Tryz.prog 124 #[u, v] w (x2h w x y) := by
 have HX := hdd hx
 have HY := hdd hy
 have HU := hdd hu
 have HV := hdd hv
 have hml : m.length ≤ l.length := by rw [hx, hy]; exact z6q hle
 have hl2 := hu.len
 have HLE := hdd hle
 have htop : nth l (l.length - 1) ≠ 0 := o8q (by rw [hx]; exact n0q _) (by intro e; rw [e] at hml; simp at hml; subst hml; simp at h3)
 have HT := hdd htop
 obtain ⟨a, cap, rfl, i1, i2, i3, i4, i5⟩ := hu
 clear i3 i4 i5 hx hy htop hv hle
 go_enter Tryz.func124, Tryz.ntmps124
 go_wp2_with fail
 have HB0 : Hi (Below w.heap.size w (w.alloc (Obj.cells #[.int IntKind.u64 0, .int IntKind.u64 0, .int IntKind.u64 0, .int IntKind.u64 0, .bool false] 135))) := hdd ((qb).alloc qm _)
 refine (j1j (HU.o.below HB0.o) (by omega) HT.o).mono ?_
 rintro en w1 ⟨⟨s, rfl, hs, hlo, hhi⟩, rfl⟩
 obtain ⟨n, hn⟩ := qx (l.length)
 have HH := hdd (v2x HX.o HY.o hn.symm (by omega) (by omega) hs HLE.o (by rw [hn]; exact hhi))
 have HHI : Hi (nth l (n - 1) * 2 ^ s < 4294967296) := hdd (by rw [hn]; exact hhi)
 have hn3 : 3 ≤ n := by omega
 have hn4 : n ≤ 1073741824 := by omega
 rw [← hn]
 have HNL := hdd hn
 clear hlo hhi hn
 go_wp2_with fail
 have hC1 := hdd (u6h (HU.o.below HB0.o) hs hn3 hn4 HHI.o)
 rw [← HNL.o] at hC1
 refine hC1.o.mono ?_
 rintro en w1 ⟨rfl, q1, rfl⟩
 go_wp2_with fail
 refine (u6h ((HV.o.below HB0.o).drewN q1) hs hn3 hn4 HH.o.1).mono ?_
 rintro en w2 ⟨rfl, q2, rfl⟩
 obtain ⟨X0, hX0⟩ := qx (d8q l n s)
 obtain ⟨Y0, hY0⟩ := qx (d8q m n s)
 have HP := HH.o.2
 rw [← hX0, ← hY0] at HP ⊢
 obtain ⟨hXb, hYb, hYX, D, a', b', hxD, hyD, haD, hbD⟩ := HP
 have HXD := hdd hxD
 have HYD := hdd hyD
 have HD := hdd (And.intro haD hbD)
 clear hC1 hX0 hY0 hxD hyD haD hbD HH
 go_wp2_with fail
 go_loopw [6, 7] (fun xs ys wr => ∃ (xc yc A1 B1 A2 B2 A3 B3 : Nat) (t : Bool), xs = .int .u64 xc ∧ ys = .int .u64 yc ∧ xc < 18446744073709551616 ∧ yc ≤ xc ∧ At5 wr (w.heap.size + 1) A1 B1 A2 B2 t ∧ At2 wr (w.heap.size + 1 + 1) A3 B3 ∧ At5 wr w.heap.size 0 0 0 0 false ∧
  Hi (Below w.heap.size w wr) ∧ Hi (w.heap.size + 1 + 1 < wr.heap.size) ∧ Hi (m2q x y X0 Y0 (sgn t) xc yc A2 B2 A3 B3) ∧ Hi (B1 ≠ 0 → q4h x y A1 B1 A2 B2 t)) (fun _ ys _ => (intOf ys).toNat)
 case atStart =>
  refine ⟨X0, Y0, 0, 0, 1, 0, 0, 1, true, rfl, rfl, hXb, hYX, ?_, ?_, ?_, hdd ?_, hdd (by simp), hdd (u7k hYX), hdd (fun h => absurd rfl h)⟩
  ·
   refine At5.alloc ?_ _
   have h9 := heap_alloc_new ((w.alloc (Obj.cells #[.int IntKind.u64 0, .int IntKind.u64 0, .int IntKind.u64 0, .int IntKind.u64 0, .bool false] 135)).drewN (q1 + q2)) (Obj.cells #[.int IntKind.u64 0, .int IntKind.u64 0, .int IntKind.u64 1, .int IntKind.u64 0, .bool true] 135)
   simpa [At5] using h9
  ·
   have h9 := heap_alloc_new (((w.alloc (Obj.cells #[.int IntKind.u64 0, .int IntKind.u64 0, .int IntKind.u64 0, .int IntKind.u64 0, .bool false] 135)).drewN (q1 + q2)).alloc (Obj.cells #[.int IntKind.u64 0, .int IntKind.u64 0, .int IntKind.u64 1, .int IntKind.u64 0, .bool true] 135)) (Obj.cells #[.int IntKind.u64 0, .int IntKind.u64 1] 133)
   simpa [At2] using h9
  ·
   refine At5.alloc (At5.alloc ?_ _) _
   have h9 := heap_alloc_new w (Obj.cells #[.int IntKind.u64 0, .int IntKind.u64 0, .int IntKind.u64 0, .int IntKind.u64 0, .bool false] 135)
   simpa [At5] using h9
  ·
   exact ((q5q HB0.o _).alloc (by simp) _).alloc (by simp; omega) _
 case round =>
  obtain ⟨xc, yc, A1, B1, A2, B2, A3, B3, t, rfl, rfl, hxc, hyx, h5, h2, h0, hbel, hsz, hinv, hok⟩ := hrel
  obtain ⟨l0, l1, l2, l3, l4⟩ := h5.cells
  obtain ⟨s0, s1⟩ := h2.cells
  by_cases c1 : B3 ≤ yc
  ·
   have d1 : decide (B3 ≤ yc) = true := by simpa using c1
   have hsm := z5v hinv.o (by omega) (by omega)
   have hmono := hinv.o.mono
   have hB3 : B3 < 4294967296 := by omega
   have hB2 : B2 < 4294967296 := by omega
   clear hsm hmono
   by_cases c2 : B2 + B3 ≤ xc - yc
   ·
    have d2 : decide ((B2 : Int) + (B3 : Int) ≤ (xc : Int) - (yc : Int)) = true := by simp; omega
    have hy1 : 0 < yc := by have := hinv.o.b3; omega
    have hnext := hdd (u8j hinv.o HXD.o HYD.o HD.o.1 HD.o.2 c1 c2)
    have hroom := u7h hinv.o hXb hy1 hnext.o
    have hok' := hdd (fun h => g1v hinv.o HXD.o HYD.o HD.o.1 HD.o.2 hXb c1 c2 h)
    have hrm : Hi (b3q xc yc < yc) := hdd (Nat.mod_lt _ hy1)
    have w1 := w5q xc yc hxc
    have w2 : (xc : Int).tmod (yc : Int) = (b3q xc yc : Int) := by rw [Int.tmod_eq_emod_of_nonneg (by omega)]; rfl
    have w3 := y1y (c := A2) (q := x4q xc yc) (a := A3) hroom.2
    have w4 := y6x (c := A2) (q := x4q xc yc) (a := A3) hroom.2
    have w5 := y1y (c := B2) (q := x4q xc yc) (a := B3) hroom.1
    have w6 := y6x (c := B2) (q := x4q xc yc) (a := B3) hroom.1
    clear hroom
    go_wp2_with fail
    go_quiet (fail)
    go_wp2_with ((with_reducible refine j9q ?_); refine q6q rfl _ _ _ rfl wr.heap.size rfl _ rfl _ _ (heap_alloc_new _ _) u7y rfl y2y ?_; intro w8 h8 hon8; refine y0q ?_)
    have h58 := (At5.alloc (w := wr.drewN nq) h5 _).only hon8 (by have := hsz.o; omega)
    have h28 := (At2.alloc (w := wr.drewN nq) h2 _).only hon8 (by have := hsz.o; omega)
    have h08 := (At5.alloc (w := wr.drewN nq) h0 _).only hon8 (by have := hsz.o; omega)
    have hb8 := hdd (q4q ((q5q hbel.o nq).alloc (by have := hsz.o; simp; omega) _) hon8 (by have := hsz.o; omega))
    have hb8s : Hi (wr.heap.size ≤ w8.heap.size) := hdd (by have := hon8.size; simp at this; omega)
    clear l0 l1 l2 l3 l4 s0 s1 h5 h2 h0 hon8
    refine z2q ?_
    obtain ⟨l0, l1, l2, l3, l4⟩ := h58.cells
    obtain ⟨s0, s1⟩ := h28.cells
    go_wp2_with ((with_reducible refine j9q ?_); refine q6q rfl _ _ _ rfl (w.heap.size + 1) rfl _ rfl _ _ h58 z4h rfl z1h ?_; intro w9 h9 hon9; refine y0q ?_)
    refine z2q ?_
    have h29 := h28.only hon9 (by omega)
    have hN9 : At2 w9 (wr.heap.size) (maN A2 (x4q xc yc) A3) (maN B2 (x4q xc yc) B3) := At2.only h8 hon9 (by have := hsz.o; omega)
    obtain ⟨n0, n1⟩ := hN9.cells
    clear l0 l1 l2 l3 l4 s0 s1
    go_wp2_with ((with_reducible refine j9q ?_); refine q6q rfl _ _ _ rfl (w.heap.size + 1 + 1) rfl _ rfl _ _ h29 u7y rfl y2y ?_; intro w10 h10 hon10; refine y0q ?_)
    refine z2q ?_
    clear n0 n1
    go_wp2_with fail
    go_roundw
    case rel =>
     have hb10 := q4q (q4q hb8.o hon9 (by omega)) hon10 (by omega)
     refine ⟨yc, b3q xc yc, A2, B2, A3, B3, maN A2 (x4q xc yc) A3, maN B2 (x4q xc yc) B3, !t, rfl, rfl, by omega, Nat.le_of_lt hrm.o, At5.only (B := w.heap.size + 1) h9 hon10 (by omega), h10, (h08.only hon9 (by omega)).only hon10 (by omega), hdd hb10, hdd (by have := hsz.o; have := hb8s.o; have := hon9.size; have := hon10.size; omega), hnext, hok'⟩
    case measure => simp [intOf]; have := hrm.o; omega
   ·
    have d2 : decide ((B2 : Int) + (B3 : Int) ≤ (xc : Int) - (yc : Int)) = false := by simp; omega
    go_wp2_with ((with_reducible refine j9q ?_); refine q6q rfl _ _ _ rfl w.heap.size rfl _ rfl _ _ h0 z4h rfl z1h ?_; intro w9 h9 hon9; refine y0q ?_)
    refine z2q ?_
    go_wp2_with fail
    exact bodyPost_ret (results_cell_row rfl _ _ w.heap.size _ _ _ _ rfl h9 Tryz.underlying135 rfl z4h) rfl ⟨⟨A1, B1, A2, B2, t, rfl, hok.o⟩, q4q hbel.o hon9 qm⟩
  ·
   have d1 : decide (B3 ≤ yc) = false := by simpa using c1
   go_wp2_with ((with_reducible refine j9q ?_); refine q6q rfl _ _ _ rfl w.heap.size rfl _ rfl _ _ h0 z4h rfl z1h ?_; intro w9 h9 hon9; refine y0q ?_)
   refine z2q ?_
   go_wp2_with fail
   exact bodyPost_ret (results_cell_row rfl _ _ w.heap.size _ _ _ _ rfl h9 Tryz.underlying135 rfl z4h) rfl ⟨⟨A1, B1, A2, B2, t, rfl, hok.o⟩, q4q hbel.o hon9 qm⟩
theorem y0v (x y : Nat) (hx : x < 18446744073709551616) (hy : y < 18446744073709551616) :
  Calls Tryz.prog 129 #[.int .u64 x, .int .u64 y] w fun e w' => e = .returned (.int .u64 (Nat.gcd x y : Nat)) ∧ ∃ n, w' = w.drewN n := by
 go_enter Tryz.func129, Tryz.ntmps129
 go_wp2_with fail
 go_loopw [0, 1] (fun a b wr => ∃ xa ya : Nat, a = .int .u64 xa ∧ b = .int .u64 ya ∧ xa < 18446744073709551616 ∧ ya < 18446744073709551616 ∧ Hi (Nat.gcd xa ya = Nat.gcd x y) ∧ ∃ n, wr = w.drewN n) (fun _ b _ => (intOf b).toNat)
 case atStart => exact ⟨x, y, rfl, rfl, hx, hy, hdd rfl, 0, rfl⟩
 case round =>
  obtain ⟨xa, ya, rfl, rfl, hxa, hya, hg, n, rfl⟩ := hrel
  by_cases h0 : ya = 0
  ·
   have h1 : ((ya : Int) == 0) = true := by simp [h0]
   have H0 := hdd h0
   clear h0
   have h2 : ((ya : Int) != 0) = false := by simpa using h1
   go_wp2_with fail
   go_ret
   refine ⟨g4q ?_, _, rfl⟩
   rw [← hg.o, H0.o, Nat.gcd_zero_right]
  ·
   have h2 : ((ya : Int) != 0) = true := by simp; omega
   have h3 : 0 < ya := by omega
   have w2 : (xa : Int).tmod (ya : Int) = (b3q xa ya : Int) := by rw [Int.tmod_eq_emod_of_nonneg (by omega)]; rfl
   have hr : Hi (b3q xa ya < ya) := hdd (Nat.mod_lt _ h3)
   have hgn : Hi (Nat.gcd ya (b3q xa ya) = Nat.gcd x y) := hdd (by
    rw [← hg.o]; unfold b3q; rw [Nat.gcd_comm xa ya, Nat.gcd_rec ya xa, Nat.gcd_comm])
   clear h0
   go_wp2_with fail
   go_quiet (fail)
   go_wp2_with fail
   go_roundw
   case rel => exact ⟨ya, b3q xa ya, rfl, rfl, hya, by have := hr.o; omega, hgn, n + nq, World.drewN_drewN _ _ _⟩
   case measure => simp [intOf]; have := hr.o; omega

theorem q6v (hu : IsW w u (q2q x)) (hv : IsW w v (q2q y)) (hy : 0 < y) (hl : (q2q x).length < 1073741824) :
  Calls Tryz.prog 153 #[u, v] w fun e w' => (∃ q, e = .returned q ∧ IsW w' q (q2q (x / y)) ∧ (∀ b, q.ownBlock = some b → w.heap.size ≤ b ∨ u.ownBlock = some b)) ∧ Below w.heap.size w w' := by
 have hC := hdd (z4v hu hv hy hl)
 clear hu hv hy hl
 go_enter Tryz.func153, Tryz.ntmps153
 go_wp2_with fail
 refine hC.o.mono ?_
 rintro en w1 ⟨⟨q, r, rfl, hq, hr, hqo, hro⟩, hbel⟩
 go_wp2_with fail
 go_ret
 exact ⟨⟨q, rfl, hq, hqo⟩, hbel⟩

def z7x (w : World) (u v r : Value) : Prop := ∀ b, r.ownBlock = some b → w.heap.size ≤ b ∨ u.ownBlock = some b ∨ v.ownBlock = some b

def g0z (w : World) (u v : Value) (g : Nat) (e : Ending) (w' : World) : Prop := (∃ r, e = .returned r ∧ IsW w' r (q2q g) ∧ z7x w u v r) ∧ Below w.heap.size w w'
theorem q4h.rests {A1 B1 : Nat} (h : q4h a b A1 B1 A2 B2 t) : ∃ R1 R2 : Nat, R2 ≤ R1 ∧ R1 ≤ b ∧ R2 < b ∧ Nat.gcd R1 R2 = Nat.gcd a b ∧ A1 < 4294967296 ∧ B1 < 4294967296 ∧ A2 < 4294967296 ∧ B2 < 4294967296 ∧
  (t = true → B1 * b = A1 * a + R1 ∧ A2 * a = B2 * b + R2) ∧ (t = false → A1 * a = B1 * b + R1 ∧ B2 * b = A2 * a + R2) := by
 obtain ⟨h1, h2, h3, h4, R1, R2, h5, h6, h7, h8, h9⟩ := h
 refine ⟨R1, R2, h6, h7, h8, h9, h1, h2, h3, h4, fun ht => by simpa [ht] using h5, fun ht => by simpa [ht] using h5⟩

structure q7w (w wr : World) (u v A B : Value) (x y xa ya : Nat) : Prop where
 a : IsW wr A (q2q xa)
 b : IsW wr B (q2q ya)
 le : ya ≤ xa
 gcd : Nat.gcd xa ya = Nat.gcd x y
 la : (q2q xa).length < 1073741824
 lb : (q2q ya).length < 1073741824
 oa : z7x w u v A
 ob : z7x w u v B
 bel : Below w.heap.size w wr

theorem z5z {B : Value} {xa ya : Nat} (hA : IsW w A (q2q xa)) (hB : IsW w B (q2q ya)) (ha1 : a1 < 4294967296) (hb1 : b1 < 4294967296) (ha2 : a2 < 4294967296) (hb2 : b2 < 4294967296)
  (ht : t = true → b1 * ya = a1 * xa + R1 ∧ a2 * xa = b2 * ya + R2) (hf : t = false → a1 * xa = b1 * ya + R1 ∧ b2 * ya = a2 * xa + R2) (hR1 : R1 ≤ ya) (hR2 : R2 ≤ ya) :
  Calls Tryz.prog 126 #[q0w a1 b1 a2 b2 t, A, B] w fun e w' => (∃ r s, e = .returned (.tuple #[r, s]) ∧ IsW w' r (q2q R1) ∧ IsW w' s (q2q R2) ∧ (∀ b, r.ownBlock = some b → w.heap.size ≤ b) ∧ (∀ b, s.ownBlock = some b → w.heap.size ≤ b)) ∧ Below w.heap.size w w' := by
 have hlt : ya < 4294967296 ^ max (q2q xa).length (q2q ya).length := Nat.lt_of_lt_of_le (k5q ya) (Nat.pow_le_pow_right (by omega) (by omega))
 cases t with
 | true => exact g0v hA hB ha1 hb1 ha2 hb2 rfl (by rw [j6q, j6q]; exact (ht rfl).1) (by rw [j6q, j6q]; exact (ht rfl).2) (by omega) (by omega)
 | false => exact g0y hA hB ha1 hb1 ha2 hb2 rfl (by rw [j6q, j6q]; exact (hf rfl).1) (by rw [j6q, j6q]; exact (hf rfl).2) (by omega) (by omega)

theorem q4z (h : ∀ b, r.ownBlock = some b → wr.heap.size ≤ b) (hb : Below w.heap.size w wr) : z7x w u v r := fun b e => Or.inl (by have := h b e; have := hb.size; omega)
theorem v6w (h : ∀ b, r.ownBlock = some b → wr.heap.size ≤ b ∨ A.ownBlock = some b) (hA : z7x w u v A) (hb : Below w.heap.size w wr) : z7x w u v r := fun b e => by
 rcases h b e with h1 | h1
 ·
  exact Or.inl (by have := hb.size; omega)
 ·
  exact hA b h1

theorem j3y (hu : IsW w u (q2q x)) (hv : IsW w v (q2q y)) (hlx : (q2q x).length < 1073741824) (hly : (q2q y).length < 1073741824) :
  Calls Tryz.prog 98 #[u, v] w (g0z w u v (Nat.gcd x y)) := by
 have HU := hdd hu
 have HV := hdd hv
 have HLX := hdd hlx
 have HLY := hdd hly
 clear hu hv hlx hly
 by_cases hlt : x < y
 ·
  have hc : u3q x y < 0 := by unfold u3q; rw [if_pos hlt]; omega
  have HST : ∀ n, Hi (q7w w (w.drewN n) u v v u x y y x) := fun n => hdd ⟨HV.o.drewN n, HU.o.drewN n, by omega, Nat.gcd_comm y x, HLY.o, HLX.o, fun b h => Or.inr (Or.inr h), fun b h => Or.inr (Or.inl h), q5q qb n⟩
  clear hlt
  go_enter Tryz.func98, Tryz.ntmps98
  go_wp2_with fail
  refine (s6q HU.o HV.o).mono ?_
  rintro en w1 ⟨rfl, n1, rfl⟩
  go_wp2_with fail
  go_loopg [0, 1] x (fun g A B wr => ∃ xa ya : Nat, g = ya ∧ Hi (q7w w wr u v A B x y xa ya))
  case atStart => exact ⟨y, x, rfl, HST n1⟩
  case round =>
   obtain ⟨xa, ya, hg, hat⟩ := hrel
   have hg' := hg.symm
   subst hg'
   clear hg
   by_cases hsh : (q2q ya).length ≤ 2
   ·
    have hs1 := j0v hsh
    have HS := hdd hsh
    clear hsh
    go_wp2_with fail
    refine (q0y hat.o.b).mono ?_
    rintro en w2 ⟨rfl, rfl⟩
    have hHB := hdd hat.o.b
    have hHA := hdd hat.o.a
    by_cases hz : ya = 0
    ·
     have hz1 := q2k hz
     have HZ := hdd hz
     clear hz
     go_wp2_with fail
     refine (h5q hHB.o).mono ?_
     rintro en w3 ⟨rfl, rfl⟩
     go_wp2_with fail
     go_ret
     refine ⟨⟨u0, rfl, ?_, hat.o.oa⟩, hat.o.bel⟩
     have e : Nat.gcd x y = xa := by rw [← hat.o.gcd, HZ.o, Nat.gcd_zero_right]
     rw [e]; exact hHA.o
    ·
     have hz1 := f2q hz
     have hpos : Hi (0 < ya) := hdd (by omega)
     clear hz
     go_wp2_with fail
     refine (h5q hHB.o).mono ?_
     rintro en w3 ⟨rfl, rfl⟩
     go_wp2_with fail
     refine (z4v hHA.o hHB.o hpos.o hat.o.la).mono ?_
     rintro en w4 ⟨⟨q, r, rfl, hq, hr, hqo, hro⟩, hbel4⟩
     have HR := hdd hr
     clear hq hr hqo hro
     have hrl : Hi (xa % ya < ya) := hdd (Nat.mod_lt _ hpos.o)
     have hrs : Hi ((q2q (xa % ya)).length ≤ 2) := hdd (Nat.le_trans (z6q (Nat.le_of_lt hrl.o)) HS.o)
     have hyb : ya < 18446744073709551616 := by have := v1y (s5q ya) HS.o; rwa [j6q] at this
     obtain ⟨rm, hrm⟩ := qx (xa % ya)
     have HRM := hdd hrm
     rw [← hrm] at HR hrl hrs
     clear hrm
     have hgl : Nat.gcd ya rm < 18446744073709551616 := Nat.lt_of_le_of_lt (Nat.gcd_le_left _ hpos.o) hyb
     obtain ⟨g, hg⟩ := qx (Nat.gcd ya rm)
     have HG := hdd hg
     rw [← hg] at hgl
     clear hg
     go_wp2_with fail
     refine (i6q (hHB.o.below hbel4) HS.o).mono ?_
     rintro en w5 ⟨rfl, rfl⟩
     go_wp2_with fail
     refine (i6q HR.o hrs.o).mono ?_
     rintro en w5 ⟨rfl, rfl⟩
     have hC := hdd (y0v (w := w4) ya rm hyb (by have := hrl.o; omega))
     rw [← HG.o] at hC
     go_wp2_with fail
     refine hC.o.mono ?_
     rintro en w5 ⟨rfl, n5, rfl⟩
     go_wp2_with fail
     refine (t5q g hgl _).mono ?_
     rintro en w6 ⟨⟨r2, rfl, hr2, hro2⟩, hbel6⟩
     go_wp2_with fail
     go_ret
     have e : Nat.gcd x y = g := by rw [HG.o, HRM.o, ← hat.o.gcd, Nat.gcd_comm xa ya, Nat.gcd_rec ya xa, Nat.gcd_comm]
     rw [← e] at hr2
     exact ⟨⟨r2, rfl, hr2, q4z (wr := w4) hro2 (q0q hat.o.bel hbel4)⟩, q0q (q0q hat.o.bel hbel4) (f5q hbel6)⟩
   ·
    have hs1 := q6h hsh
    have HS := hdd hsh
    clear hsh
    go_wp2_with fail
    refine (q0y hat.o.b).mono ?_
    rintro en w2 ⟨rfl, rfl⟩
    go_wp2_with fail
    refine (z4k rfl rfl hat.o.a hat.o.b (by have := HS.o; omega) hat.o.le).mono ?_
    rintro en wf ⟨⟨a1, b1, a2, b2, t, rfl, hok⟩, hbf⟩
    have HOK := hdd hok
    unfold q0w
    clear hok
    have hyp : Hi (0 < ya) := hdd (by
     rcases Nat.eq_zero_or_pos ya with h | h
     ·
      exfalso; apply HS.o; rw [h, y7q]; simp
     ·
      exact h)
    have hHA := hdd hat.o.a
    have hHB := hdd hat.o.b
    have hA5 : At5 (wf.alloc (Obj.cells #[.int IntKind.u64 a1, .int IntKind.u64 b1, .int IntKind.u64 a2, .int IntKind.u64 b2, .bool t] 135)) wf.heap.size a1 b1 a2 b2 t := heap_alloc_new _ _
    have hbA := (Below.refl wf.heap.size wf).alloc qm (Obj.cells #[.int IntKind.u64 a1, .int IntKind.u64 b1, .int IntKind.u64 a2, .int IntKind.u64 b2, .bool t] 135)
    have HA5 := hdd hA5
    have HBA := hdd hbA
    clear hA5 hbA
    by_cases hb0 : b1 = 0
    ·
     have hbb : (b1 == 0) = true := by simp [hb0]
     clear hb0
     go_wp2_with fail
     refine (y3y (a1 := a1) (b1 := b1) (a2 := a2) (b2 := b2) (t := t)).mono ?_
     rintro en w2 ⟨rfl, hbel2⟩
     have hB2 := hdd (q0q hbf (q0q HBA.o hbel2))
     go_wp2_with fail
     refine (z4v (hHA.o.below hB2.o) (hHB.o.below hB2.o) hyp.o hat.o.la).mono ?_
     rintro en w3 ⟨⟨q, r, rfl, hq, hr, hqo, hro⟩, hbel3⟩
     have hm := Nat.mod_lt xa hyp.o
     have hnew : Hi (q7w w w3 u v u1 r x y ya (xa % ya)) := hdd ⟨(hHB.o.below hB2.o).below hbel3, hr, Nat.le_of_lt hm, by rw [← hat.o.gcd, Nat.gcd_comm xa ya, Nat.gcd_rec ya xa, Nat.gcd_comm], hat.o.lb, Nat.lt_of_le_of_lt (z6q (Nat.le_of_lt hm)) hat.o.lb,
      hat.o.ob, v6w hro hat.o.oa (q0q hat.o.bel hB2.o), q0q (q0q hat.o.bel hB2.o) hbel3⟩
     have HM := hdd hm
     clear hq hr hqo hro hm
     go_wp2_with fail
     go_roundg (xa % ya)
     case measure => exact HM.o
     case rel => exact ⟨ya, xa % ya, rfl, hnew⟩
    ·
     have hbb : (b1 == 0) = false := by simp [hb0]
     have hLO := hdd (q4h.rests (HOK.o hb0))
     clear hb0
     go_wp2_with fail
     refine (y3y (a1 := a1) (b1 := b1) (a2 := a2) (b2 := b2) (t := t)).mono ?_
     rintro en w2 ⟨rfl, hbel2⟩
     have hB2 := hdd (q0q hbf (q0q HBA.o hbel2))
     have h52 : At5 w2 wf.heap.size a1 b1 a2 b2 t := by
      unfold At5
      rw [hbel2.block wf.heap.size (by simp)]
      exact HA5.o
     obtain ⟨l0, l1, l2, l3, l4⟩ := h52.cells
     obtain ⟨R1, R2, q1, q2, q3, q4, q5, q6, q7, q8, q9, q10⟩ := hLO.o
     have hC := hdd (z5z (t := t) (hHA.o.below hB2.o) (hHB.o.below hB2.o) q5 q6 q7 q8 q9 q10 q2 (Nat.le_of_lt q3))
     have hLE : Hi (R2 ≤ R1 ∧ R1 ≤ ya ∧ R2 < ya) := hdd ⟨q1, q2, q3⟩
     have hGG : Hi (Nat.gcd R1 R2 = Nat.gcd xa ya) := hdd q4
     clear q1 q2 q3 q4 q5 q6 q7 q8 q9 q10 h52
     go_wp2_with fail
     refine hC.o.mono ?_
     rintro en w3 ⟨⟨r, s, rfl, hr, hs, hro, hso⟩, hbel3⟩
     have hnew : Hi (q7w w w3 u v r s x y R1 R2) := hdd ⟨hr, hs, hLE.o.1, by rw [hGG.o, hat.o.gcd], Nat.lt_of_le_of_lt (z6q hLE.o.2.1) hat.o.lb, Nat.lt_of_le_of_lt (z6q (Nat.le_of_lt hLE.o.2.2)) hat.o.lb,
      q4z hro (q0q hat.o.bel hB2.o), q4z hso (q0q hat.o.bel hB2.o), q0q (q0q hat.o.bel hB2.o) hbel3⟩
     clear hr hs hro hso
     go_wp2_with fail
     go_roundg R2
     case measure => exact hLE.o.2.2
     case rel => exact ⟨R1, R2, rfl, hnew⟩
 ·
  have hc : ¬ u3q x y < 0 := by unfold u3q; rw [if_neg hlt]; split <;> omega
  have HST : ∀ n, Hi (q7w w (w.drewN n) u v u v x y x y) := fun n => hdd ⟨HU.o.drewN n, HV.o.drewN n, by omega, rfl, HLX.o, HLY.o, fun b h => Or.inr (Or.inl h), fun b h => Or.inr (Or.inr h), q5q qb n⟩
  clear hlt
  go_enter Tryz.func98, Tryz.ntmps98
  go_wp2_with fail
  refine (s6q HU.o HV.o).mono ?_
  rintro en w1 ⟨rfl, n1, rfl⟩
  go_wp2_with fail
  go_loopg [0, 1] y (fun g A B wr => ∃ xa ya : Nat, g = ya ∧ Hi (q7w w wr u v A B x y xa ya))
  case atStart => exact ⟨x, y, rfl, HST n1⟩
  case round =>
   obtain ⟨xa, ya, hg, hat⟩ := hrel
   have hg' := hg.symm
   subst hg'
   clear hg
   by_cases hsh : (q2q ya).length ≤ 2
   ·
    have hs1 := j0v hsh
    have HS := hdd hsh
    clear hsh
    go_wp2_with fail
    refine (q0y hat.o.b).mono ?_
    rintro en w2 ⟨rfl, rfl⟩
    have hHB := hdd hat.o.b
    have hHA := hdd hat.o.a
    by_cases hz : ya = 0
    ·
     have hz1 := q2k hz
     have HZ := hdd hz
     clear hz
     go_wp2_with fail
     refine (h5q hHB.o).mono ?_
     rintro en w3 ⟨rfl, rfl⟩
     go_wp2_with fail
     go_ret
     refine ⟨⟨u0, rfl, ?_, hat.o.oa⟩, hat.o.bel⟩
     have e : Nat.gcd x y = xa := by rw [← hat.o.gcd, HZ.o, Nat.gcd_zero_right]
     rw [e]; exact hHA.o
    ·
     have hz1 := f2q hz
     have hpos : Hi (0 < ya) := hdd (by omega)
     clear hz
     go_wp2_with fail
     refine (h5q hHB.o).mono ?_
     rintro en w3 ⟨rfl, rfl⟩
     go_wp2_with fail
     refine (z4v hHA.o hHB.o hpos.o hat.o.la).mono ?_
     rintro en w4 ⟨⟨q, r, rfl, hq, hr, hqo, hro⟩, hbel4⟩
     have HR := hdd hr
     clear hq hr hqo hro
     have hrl : Hi (xa % ya < ya) := hdd (Nat.mod_lt _ hpos.o)
     have hrs : Hi ((q2q (xa % ya)).length ≤ 2) := hdd (Nat.le_trans (z6q (Nat.le_of_lt hrl.o)) HS.o)
     have hyb : ya < 18446744073709551616 := by have := v1y (s5q ya) HS.o; rwa [j6q] at this
     obtain ⟨rm, hrm⟩ := qx (xa % ya)
     have HRM := hdd hrm
     rw [← hrm] at HR hrl hrs
     clear hrm
     have hgl : Nat.gcd ya rm < 18446744073709551616 := Nat.lt_of_le_of_lt (Nat.gcd_le_left _ hpos.o) hyb
     obtain ⟨g, hg⟩ := qx (Nat.gcd ya rm)
     have HG := hdd hg
     rw [← hg] at hgl
     clear hg
     go_wp2_with fail
     refine (i6q (hHB.o.below hbel4) HS.o).mono ?_
     rintro en w5 ⟨rfl, rfl⟩
     go_wp2_with fail
     refine (i6q HR.o hrs.o).mono ?_
     rintro en w5 ⟨rfl, rfl⟩
     have hC := hdd (y0v (w := w4) ya rm hyb (by have := hrl.o; omega))
     rw [← HG.o] at hC
     go_wp2_with fail
     refine hC.o.mono ?_
     rintro en w5 ⟨rfl, n5, rfl⟩
     go_wp2_with fail
     refine (t5q g hgl _).mono ?_
     rintro en w6 ⟨⟨r2, rfl, hr2, hro2⟩, hbel6⟩
     go_wp2_with fail
     go_ret
     have e : Nat.gcd x y = g := by rw [HG.o, HRM.o, ← hat.o.gcd, Nat.gcd_comm xa ya, Nat.gcd_rec ya xa, Nat.gcd_comm]
     rw [← e] at hr2
     exact ⟨⟨r2, rfl, hr2, q4z (wr := w4) hro2 (q0q hat.o.bel hbel4)⟩, q0q (q0q hat.o.bel hbel4) (f5q hbel6)⟩
   ·
    have hs1 := q6h hsh
    have HS := hdd hsh
    clear hsh
    go_wp2_with fail
    refine (q0y hat.o.b).mono ?_
    rintro en w2 ⟨rfl, rfl⟩
    go_wp2_with fail
    refine (z4k rfl rfl hat.o.a hat.o.b (by have := HS.o; omega) hat.o.le).mono ?_
    rintro en wf ⟨⟨a1, b1, a2, b2, t, rfl, hok⟩, hbf⟩
    have HOK := hdd hok
    unfold q0w
    clear hok
    have hyp : Hi (0 < ya) := hdd (by
     rcases Nat.eq_zero_or_pos ya with h | h
     ·
      exfalso; apply HS.o; rw [h, y7q]; simp
     ·
      exact h)
    have hHA := hdd hat.o.a
    have hHB := hdd hat.o.b
    have hA5 : At5 (wf.alloc (Obj.cells #[.int IntKind.u64 a1, .int IntKind.u64 b1, .int IntKind.u64 a2, .int IntKind.u64 b2, .bool t] 135)) wf.heap.size a1 b1 a2 b2 t := heap_alloc_new _ _
    have hbA := (Below.refl wf.heap.size wf).alloc qm (Obj.cells #[.int IntKind.u64 a1, .int IntKind.u64 b1, .int IntKind.u64 a2, .int IntKind.u64 b2, .bool t] 135)
    have HA5 := hdd hA5
    have HBA := hdd hbA
    clear hA5 hbA
    by_cases hb0 : b1 = 0
    ·
     have hbb : (b1 == 0) = true := by simp [hb0]
     clear hb0
     go_wp2_with fail
     refine (y3y (a1 := a1) (b1 := b1) (a2 := a2) (b2 := b2) (t := t)).mono ?_
     rintro en w2 ⟨rfl, hbel2⟩
     have hB2 := hdd (q0q hbf (q0q HBA.o hbel2))
     go_wp2_with fail
     refine (z4v (hHA.o.below hB2.o) (hHB.o.below hB2.o) hyp.o hat.o.la).mono ?_
     rintro en w3 ⟨⟨q, r, rfl, hq, hr, hqo, hro⟩, hbel3⟩
     have hm := Nat.mod_lt xa hyp.o
     have hnew : Hi (q7w w w3 u v u1 r x y ya (xa % ya)) := hdd ⟨(hHB.o.below hB2.o).below hbel3, hr, Nat.le_of_lt hm, by rw [← hat.o.gcd, Nat.gcd_comm xa ya, Nat.gcd_rec ya xa, Nat.gcd_comm], hat.o.lb, Nat.lt_of_le_of_lt (z6q (Nat.le_of_lt hm)) hat.o.lb,
      hat.o.ob, v6w hro hat.o.oa (q0q hat.o.bel hB2.o), q0q (q0q hat.o.bel hB2.o) hbel3⟩
     have HM := hdd hm
     clear hq hr hqo hro hm
     go_wp2_with fail
     go_roundg (xa % ya)
     case measure => exact HM.o
     case rel => exact ⟨ya, xa % ya, rfl, hnew⟩
    ·
     have hbb : (b1 == 0) = false := by simp [hb0]
     have hLO := hdd (q4h.rests (HOK.o hb0))
     clear hb0
     go_wp2_with fail
     refine (y3y (a1 := a1) (b1 := b1) (a2 := a2) (b2 := b2) (t := t)).mono ?_
     rintro en w2 ⟨rfl, hbel2⟩
     have hB2 := hdd (q0q hbf (q0q HBA.o hbel2))
     have h52 : At5 w2 wf.heap.size a1 b1 a2 b2 t := by
      unfold At5
      rw [hbel2.block wf.heap.size (by simp)]
      exact HA5.o
     obtain ⟨l0, l1, l2, l3, l4⟩ := h52.cells
     obtain ⟨R1, R2, q1, q2, q3, q4, q5, q6, q7, q8, q9, q10⟩ := hLO.o
     have hC := hdd (z5z (t := t) (hHA.o.below hB2.o) (hHB.o.below hB2.o) q5 q6 q7 q8 q9 q10 q2 (Nat.le_of_lt q3))
     have hLE : Hi (R2 ≤ R1 ∧ R1 ≤ ya ∧ R2 < ya) := hdd ⟨q1, q2, q3⟩
     have hGG : Hi (Nat.gcd R1 R2 = Nat.gcd xa ya) := hdd q4
     clear q1 q2 q3 q4 q5 q6 q7 q8 q9 q10 h52
     go_wp2_with fail
     refine hC.o.mono ?_
     rintro en w3 ⟨⟨r, s, rfl, hr, hs, hro, hso⟩, hbel3⟩
     have hnew : Hi (q7w w w3 u v r s x y R1 R2) := hdd ⟨hr, hs, hLE.o.1, by rw [hGG.o, hat.o.gcd], Nat.lt_of_le_of_lt (z6q hLE.o.2.1) hat.o.lb, Nat.lt_of_le_of_lt (z6q (Nat.le_of_lt hLE.o.2.2)) hat.o.lb,
      q4z hro (q0q hat.o.bel hB2.o), q4z hso (q0q hat.o.bel hB2.o), q0q (q0q hat.o.bel hB2.o) hbel3⟩
     clear hr hs hro hso
     go_wp2_with fail
     go_roundg R2
     case measure => exact hLE.o.2.2
     case rel => exact ⟨R1, R2, rfl, hnew⟩
theorem o5q : (Tryz.prog.info? 87).map (·.size) = some 2 := by kernel_rfl

def p7q (w : World) (v : Value) (z : Int) : Prop := ∃ u, v = .agg #[u, .bool (decide (z < 0))] ∧ IsW w u (q2q z.natAbs)
theorem p7q.below (h : p7q w v z) (hb : Below w.heap.size w w') : p7q w' v z := by
 obtain ⟨u, rfl, hu⟩ := h
 exact ⟨u, rfl, hu.below hb⟩

theorem a5q (hv : IsW w v (q2q x)) (b : Bool) :
  Calls Tryz.prog 114 #[v, .bool b] w fun e w' => e = .returned (.agg #[v, .bool (b && !g7q x)]) ∧ Below w.heap.size w w' := by
 have HV := hdd hv
 obtain ⟨l, hl⟩ := qx (q2q x)
 rw [← hl] at hv
 obtain ⟨a, cap, hve, -⟩ := hv
 subst hve
 clear hl
 have hB0 : Hi (∀ o, Below w.heap.size w (w.alloc o)) := hdd (fun o => (qb).alloc qm o)
 cases b with
 | false =>
  go_enter Tryz.func114, Tryz.ntmps114
  go_wp2_with fail
  exact bodyPost_ret (results_cell_row rfl _ _ w.heap.size _ _ _ _ rfl (heap_alloc_new _ _) Tryz.underlying87 rfl o5q) rfl ⟨by simp, hB0.o _⟩
 | true =>
  go_enter Tryz.func114, Tryz.ntmps114
  go_wp2_with fail
  refine (h5q (HV.o.below (hB0.o _))).mono ?_
  rintro en w1 ⟨rfl, rfl⟩
  go_wp2_with fail
  exact bodyPost_ret (results_cell_row rfl _ _ w.heap.size _ _ _ _ rfl (heap_alloc_new _ _) Tryz.underlying87 rfl o5q) rfl ⟨by simp, hB0.o _⟩
theorem q4j (hv : IsW w v (q2q x)) (b : Bool) : p7q w (.agg #[v, .bool (b && !g7q x)]) (if b then -(x : Int) else x) := by
 refine ⟨v, ?_, ?_⟩
 ·
  congr 3
  cases b with
  | false => simp
  | true => by_cases h : x = 0 <;> simp [g7q, h] <;> omega
 ·
  cases b with
  | false => simpa using hv
  | true => simpa using hv

theorem y0y (n : Int) (h1 : -9223372036854775808 ≤ n) (h2 : n ≤ 9223372036854775807) :
  Calls Tryz.prog 142 #[.int .i64 n] w fun e w' => (∃ r, e = .returned r ∧ p7q w' r n) ∧ Below w.heap.size w w' := by
 have hB0 : Hi (∀ o, Below w.heap.size w (w.alloc o)) := hdd (fun o => (qb).alloc qm o)
 by_cases hn : n < 0
 ·
  obtain ⟨k, hk⟩ : ∃ k : Nat, n = -(k : Int) := ⟨n.natAbs, by omega⟩
  subst hk
  have w1 : IntKind.u64.wrap (-IntKind.u64.wrap (-(k : Int))) = (k : Int) := by
   rw [IntKind.wrap_u64, IntKind.wrap_u64]; omega
  go_enter Tryz.func142, Tryz.ntmps142
  go_wp2_with fail
  refine (t5q k (by omega) _).mono ?_
  rintro en w2 ⟨⟨r, rfl, hr, hro⟩, hbel⟩
  have HR := hdd hr
  have HNE : Hi (r.ownBlock ≠ some w.heap.size) := hdd (fun e => by have := hro _ e; simp at this; omega)
  obtain ⟨ra, rc, hre, -⟩ := hr
  obtain ⟨rn, hrn⟩ := qx ((q2q k).length)
  rw [← hrn] at hre
  subst hre
  have h0 : w2.heap[w.heap.size]? = some (.cells #[.slice none 0 0, .bool false] 87 (0, 0)) := by
   rw [hbel.block _ (by simp)]; exact heap_alloc_new _ _
  have HBW := hdd (q0q (hB0.o _) hbel)
  clear hro hrn
  go_wp2_with ((with_reducible refine j9q ?_); refine q6q rfl _ _ _ rfl w.heap.size rfl _ rfl _ _ h0 o5q rfl (by intro v hv; simp at hv; rcases hv with rfl | rfl <;> rfl) ?_; intro w9 h9 hon9; refine y0q ?_)
  refine z2q ?_
  go_wp2_with fail
  exact bodyPost_ret (results_cell_row rfl _ _ w.heap.size _ _ _ _ rfl h9 Tryz.underlying87 rfl o5q) rfl ⟨⟨_, rfl, .slice ra rn rc, by rw [decide_eq_true (show -(k : Int) < 0 by omega)], by rw [Int.natAbs_neg, Int.natAbs_natCast]; exact HR.o.only hon9 HNE.o⟩, q4q HBW.o hon9 qm⟩
 ·
  obtain ⟨k, hk⟩ : ∃ k : Nat, n = (k : Int) := ⟨n.natAbs, by omega⟩
  subst hk
  go_enter Tryz.func142, Tryz.ntmps142
  go_wp2_with fail
  refine (t5q k (by omega) _).mono ?_
  rintro en w2 ⟨⟨r, rfl, hr, hro⟩, hbel⟩
  have HR := hdd hr
  have HNE : Hi (r.ownBlock ≠ some w.heap.size) := hdd (fun e => by have := hro _ e; simp at this; omega)
  obtain ⟨ra, rc, hre, -⟩ := hr
  obtain ⟨rn, hrn⟩ := qx ((q2q k).length)
  rw [← hrn] at hre
  subst hre
  have h0 : w2.heap[w.heap.size]? = some (.cells #[.slice none 0 0, .bool false] 87 (0, 0)) := by
   rw [hbel.block _ (by simp)]; exact heap_alloc_new _ _
  have HBW := hdd (q0q (hB0.o _) hbel)
  clear hro hrn
  go_wp2_with ((with_reducible refine j9q ?_); refine q6q rfl _ _ _ rfl w.heap.size rfl _ rfl _ _ h0 o5q rfl (by intro v hv; simp at hv; rcases hv with rfl | rfl <;> rfl) ?_; intro w9 h9 hon9; refine y0q ?_)
  refine z2q ?_
  go_wp2_with fail
  exact bodyPost_ret (results_cell_row rfl _ _ w.heap.size _ _ _ _ rfl h9 Tryz.underlying87 rfl o5q) rfl ⟨⟨_, rfl, .slice ra rn rc, by rw [decide_eq_false (show ¬ (k : Int) < 0 by omega)], by rw [Int.natAbs_natCast]; exact HR.o.only hon9 HNE.o⟩, q4q HBW.o hon9 qm⟩

theorem g9h (hv : p7q w v z) :
  Calls Tryz.prog 107 #[v] w fun e w' => e = .returned (.int .i64 z.sign) ∧ Below w.heap.size w w' := by
 obtain ⟨u, rfl, hu⟩ := hv
 have HU := hdd hu
 obtain ⟨l, hl⟩ := qx (q2q z.natAbs)
 rw [← hl] at hu
 obtain ⟨a, cap, hve, -⟩ := hu
 subst hve
 clear hl
 have hB0 : Hi (∀ o, Below w.heap.size w (w.alloc o)) := hdd (fun o => (qb).alloc qm o)
 go_enter Tryz.func107, Tryz.ntmps107
 go_wp2_with fail
 refine (h5q (HU.o.below (hB0.o _))).mono ?_
 rintro en w1 ⟨rfl, rfl⟩
 by_cases hz : z = 0
 ·
  have hz1 := q2k (x := z.natAbs) (by omega)
  have HZ := hdd hz
  clear hz
  go_wp2_with fail
  go_ret
  exact ⟨g4q (by rw [HZ.o]; rfl), hB0.o _⟩
 ·
  have hz1 := f2q (x := z.natAbs) (by omega)
  by_cases hn : z < 0
  ·
   have hd : decide (z < 0) = true := by simp [hn]
   have HN := hdd hn
   clear hz hn
   go_wp2_with fail
   go_ret
   exact ⟨g4q (by rw [Int.sign_eq_neg_one_of_neg HN.o]), hB0.o _⟩
  ·
   have hd : decide (z < 0) = false := by simp; omega
   have HN : Hi (0 < z) := hdd (by omega)
   clear hz hn
   go_wp2_with fail
   go_ret
   exact ⟨g4q (by rw [Int.sign_eq_one_of_pos HN.o]), hB0.o _⟩
theorem z3q {o : Nat} (hb : Below w.heap.size w w') (hc : (w.cell? ⟨b, o, none⟩).isSome = true) (hf : w.frozen? ⟨b, o, none⟩ = false) : w'.frozen? ⟨b, o, none⟩ = false := by
 rw [hb.frozen (p := ⟨b, o, none⟩)]
 ·
  exact hf
 ·
  show b < w.heap.size
  rcases Nat.lt_or_ge b w.heap.size with h | h
  ·
   exact h
  ·
   simp [World.cell?, Array.getElem?_eq_none h] at hc

theorem IsW.form (h : IsW w v l) : ∃ a n c, v = .slice a n c := by obtain ⟨a, c, h, -⟩ := h; exact ⟨a, _, c, h⟩

theorem v4j (z : Int) (y : Nat) : (if decide (z < 0) = true then -((z.natAbs * y : Nat) : Int) else ((z.natAbs * y : Nat) : Int)) = z * y := by
 by_cases h : z < 0
 ·
  obtain ⟨k, rfl⟩ : ∃ k : Nat, z = -(k : Int) := ⟨z.natAbs, by omega⟩
  have h9 : k ≠ 0 := by intro e; subst e; simp at h
  have h8 : 0 < k := by omega
  simp [h8, Int.neg_mul]
 ·
  obtain ⟨k, rfl⟩ : ∃ k : Nat, z = (k : Int) := ⟨z.natAbs, by omega⟩
  simp [h]

theorem g3x {d : Value} (hv : p7q w v z) (hd : IsW w d (q2q y)) (hlen : (q2q z.natAbs).length + (q2q y).length ≤ 536870912) :
  Calls Tryz.prog 154 #[v, d] w fun e w' => (∃ r, e = .returned r ∧ p7q w' r (z * y)) ∧ Below w.heap.size w w' := by
 obtain ⟨u, rfl, hu⟩ := hv
 have HU := hdd hu
 have HD := hdd hd
 have HL := hdd hlen
 obtain ⟨ua, uc, hue, -⟩ := hu
 obtain ⟨un, hun⟩ := qx ((q2q z.natAbs).length)
 rw [← hun] at hue
 subst hue
 clear hd hlen hun
 go_enter Tryz.func154, Tryz.ntmps154
 go_wp2_with fail
 have HB0 : Hi (Below w.heap.size w ((w.alloc (Obj.cells #[.slice ua un uc, .bool (decide (z < 0))] 87)).alloc (Obj.cells #[.slice none 0 0, .bool false] 87))) :=
  hdd (((qb).alloc qm _).alloc (by simp) _)
 have R0 : Hi (∀ o v, (#[Value.slice none 0 0, Value.bool false] : Array Value)[o]? = some v → ((w.alloc (Obj.cells #[.slice ua un uc, .bool (decide (z < 0))] 87)).alloc (Obj.cells #[.slice none 0 0, .bool false] 87)).drew.cell? ⟨w.heap.size + 1, o, none⟩ = some v ∧ ((w.alloc (Obj.cells #[.slice ua un uc, .bool (decide (z < 0))] 87)).alloc (Obj.cells #[.slice none 0 0, .bool false] 87)).drew.frozen? ⟨w.heap.size + 1, o, none⟩ = false) :=
  hdd (fun o v h => by
   have h9 := heap_alloc2_new w (Obj.cells #[.slice ua un uc, .bool (decide (z < 0))] 87) (Obj.cells #[.slice none 0 0, .bool false] 87)
   exact ⟨by rw [World.cell?_drew, cell_of_row _ _ _ _ _ _ h9]; exact h, by rw [World.frozen?_drew, frozen_of_row _ _ _ _ _ h9]⟩)
 go_region_held3 (fun w' => w'.cell? ⟨w.heap.size, 0, none⟩ = some (.slice ua un uc) ∧ w'.cell? ⟨w.heap.size, 1, none⟩ = some (.bool (decide (z < 0))))
  (((try dsimp only); refine ⟨?_, ?_⟩ <;> (first | (refine q3q ‹Below _ _ _› ?_; first | assumption | (simp [*]; done)) | go_keep)))
  (first | (go_at_call 157; refine (j9k (HU.o.below HB0.o).drew (HD.o.below HB0.o).drew HL.o).mono ?_; rintro en w4 ⟨⟨r, rfl, hr, hro⟩, hbel4⟩; obtain ⟨ra, rn, rc, hre⟩ := hr.form; subst hre) | (go_at_call 114; refine (a5q hr (decide (z < 0))).mono ?_; rintro en w5 ⟨rfl, hbel5⟩; have r0 := q3q hbel5 (q3q hbel4 (R0.o 0 _ rfl).1); have r1 := q3q hbel5 (q3q hbel4 (R0.o 1 _ rfl).1); have f0 := z3q hbel5 (by rw [q3q hbel4 (R0.o 0 _ rfl).1]; rfl) (z3q hbel4 (by rw [(R0.o 0 _ rfl).1]; rfl) (R0.o 0 _ rfl).2); have f1 := z3q hbel5 (by rw [q3q hbel4 (R0.o 1 _ rfl).1]; rfl) (z3q hbel4 (by rw [(R0.o 1 _ rfl).1]; rfl) (R0.o 1 _ rfl).2)))
 have hR5 : w5.heap[w.heap.size + 1]? = some (.cells #[.slice none 0 0, .bool false] 87 (0, 0)) := by
  rw [hbel5.block _ (by have := hbel4.size; simp at this; omega), hbel4.block _ (by simp)]
  exact heap_alloc2_new w _ _
 have HR5 := hdd hR5
 have HBW := hdd (q0q (q0q HB0.o (u2q hbel4)) hbel5)
 have HNV : Hi (p7q w5 (.agg #[Value.slice ra rn rc, Value.bool (decide (z < 0) && !g7q (z.natAbs * y))]) (z * y)) := hdd (by
  have h9 := q4j (hr.below hbel5) (decide (z < 0))
  rwa [v4j] at h9)
 clear hR5 r0 r1 f0 f1 hro
 go_wp2_with fail
 have hset := ((z9q.refl (w.heap.size + 1) w5).setCell 0 (Value.slice ra rn rc)).setCell 1 (Value.bool (decide (z < 0) && !g7q (z.natAbs * y)))
 refine bodyPost_ret (results_cell_row rfl _ _ (w.heap.size + 1) _ _ _ _ rfl (heap_setCell_same _ _ 1 _ _ _ (heap_setCell_same _ _ 0 _ _ _ HR5.o)) Tryz.underlying87 rfl o5q) rfl ⟨⟨_, rfl, ?_⟩, q4q HBW.o hset (by omega)⟩
 obtain ⟨u9, h8, h9⟩ := HNV.o
 simp only [Value.agg.injEq, Array.mk.injEq, List.cons.injEq, and_true, Value.bool.injEq] at h8
 obtain ⟨h7, hb⟩ := h8
 subst h7
 exact ⟨_, by rw [hb]; rfl, h9.other HR5.o (j4j ⟨_, _, _, rfl⟩) hset⟩
end Go.Proofs.YtkkbmlkpgknhgaaGreat
