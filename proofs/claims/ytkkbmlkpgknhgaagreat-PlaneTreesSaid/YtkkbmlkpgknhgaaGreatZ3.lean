import Derived.Test.YtkkbmlkpgknhgaaGreatZ2
import Derived.Below
set_option maxRecDepth 100000
set_option maxHeartbeats 16000000
namespace Go.Proofs.YtkkbmlkpgknhgaaGreat
open Go.RowKit
variable {A Bn N P R Y a2 b bl br f g h k le mo n off p q r rest s : Nat} {A2 A3 B2 B3 X0 Y0 a e x y : Int} {L M M0 l lb m : List Nat} {u v : Value} {w : World}
def j0q (x : Nat) : Nat := x % 4294967296
theorem l0q (x : Nat) (hx : x < 18446744073709551616) : bits .and .u64 (x : Int) 4294967295 = (j0q x : Int) := by
 have h := u64_and_nat x 4294967295 hx (by omega)
 have e : x &&& 4294967295 = x % 4294967296 := Nat.and_two_pow_sub_one_eq_mod x 32
 rw [e] at h
 exact h

theorem x1z {c : Nat} (hk : off + k < M.length) (hM : nth M (off + k) < 4294967296) (hb : br ≤ 1) (hsame : nth M (off + k) = nth L (off + k))
  (hv : pv M off k + pv lb 0 k * f = pv L off k + 4294967296 ^ k * (br + c)) :
  pv (M.set (off + k) (v7q (v7q (nth M (off + k)) (j0q (z4q (nth lb k) f 0 c))) br % 4294967296)) off (k + 1) + pv lb 0 (k + 1) * f =
   pv L off (k + 1) + 4294967296 ^ (k + 1) * (v7q (v7q (nth M (off + k)) (j0q (z4q (nth lb k) f 0 c))) br / 9223372036854775808 + z4q (nth lb k) f 0 c / 4294967296) := by
 have hlow : j0q (z4q (nth lb k) f 0 c) < 4294967296 := Nat.mod_lt _ (by omega)
 have h := (i2q (nth M (off + k)) (j0q (z4q (nth lb k) f 0 c)) br hM hlow hb).1
 have h2 := Nat.mod_add_div (z4q (nth lb k) f 0 c) 4294967296
 rw [d0q _ _ _ _ hk, v2q, v2q, Nat.zero_add, Nat.pow_succ, ← hsame]
 generalize v7q (v7q (nth M (off + k)) (j0q (z4q (nth lb k) f 0 c))) br / 9223372036854775808 = q at *
 generalize v7q (v7q (nth M (off + k)) (j0q (z4q (nth lb k) f 0 c))) br % 4294967296 = d at *
 unfold j0q at h
 generalize z4q (nth lb k) f 0 c / 4294967296 = t at *
 generalize z4q (nth lb k) f 0 c % 4294967296 = u at *
 unfold z4q at h2
 generalize 4294967296 ^ k = p at *
 have e1 : p * (d + u + br) = p * (nth M (off + k) + 4294967296 * q) := by rw [h]
 have e2 : p * (u + 4294967296 * t) = p * (c + (nth lb k * f + 0)) := by rw [h2]
 grind

theorem v4z {B cap : Nat} {e : TypeId} {vb : Value} (hL : Blk w B e L) (hw : Ws L) (hn : off + n ≤ L.length) (hlen : L.length ≤ 2147483648)
  (hb : IsW w vb lb) (hne : lb ≠ [] → vb.ownBlock ≠ some B) (hf : f < 4294967296) (hlb : lb.length < n) :
  Calls Tryz.prog 167 #[.slice (some ⟨B, off, none⟩) n cap, vb, .int .u64 f] w fun en w' =>
   ∃ (L' : List Nat) (br : Nat), en = .returned (.bool (br == 1)) ∧ br ≤ 1 ∧ Blk w' B e L' ∧ Ws L' ∧ L'.length = L.length ∧ z9q B w w' ∧ (∀ j, (j < off ∨ off + n ≤ j) → nth L' j = nth L j) ∧ pv L' off n + val lb * f = pv L off n + 4294967296 ^ n * br := by
 have HW := hdd hw
 have HB := hdd hb
 clear hw
 go_enter Tryz.func167, Tryz.ntmps167
 go_wp2_with fail
 go_loopw [7, 8, 13] (fun c b i wr => ∃ (k cr br : Nat) (M : List Nat), k ≤ n ∧ i = .int .i64 k ∧ c = .int .u64 cr ∧ b = .int .u64 br ∧ br ≤ 1 ∧ cr < 4294967296 ∧ Hi (lb.length < k → cr = 0) ∧ Blk wr B e M ∧ Hi (Ws M) ∧ Hi (M.length = L.length) ∧ z9q B w wr ∧
   Hi (∀ j, (j < off ∨ off + k ≤ j) → nth M j = nth L j) ∧ Hi (pv M off k + pv lb 0 k * f = pv L off k + 4294967296 ^ k * (br + cr))) (fun _ _ i _ => n - (intOf i).toNat)
 case atStart => exact ⟨0, 0, 0, L, Nat.zero_le _, rfl, rfl, rfl, by omega, by omega, hdd (fun _ => rfl), hL, HW, hdd rfl, z9q.refl _ _, hdd (fun _ _ => rfl), hdd (by simp [x2q])⟩
 case round =>
  obtain ⟨k, cr, br, M, hk, rfl, rfl, rfl, hbr, hcr, hz, hM, hMw, hMl, hon, hsame, hval⟩ := hrel
  by_cases hkn : k < n
  ·
   have hx := y1q hMw.o (off + k)
   have hy := y1q HB.o.ws k
   have hcell := hM.cell (off + k) (by have := hMl.o; omega)
   have hfree := hM.free (off + k)
   have w1 := d9q hy hf
   have w2 := o0q hy hf (show 0 < 4294967296 by omega) hcr
   have w3 := r0q hy hf (show 0 < 4294967296 by omega) hcr
   have w4 := l0q _ w3
   have hlow : j0q (z4q (nth lb k) f 0 cr) < 4294967296 := Nat.mod_lt _ (by omega)
   have w5 := i3q (nth M (off + k)) (j0q (z4q (nth lb k) f 0 cr)) (by omega) (by omega)
   have w6 := i3q (v7q (nth M (off + k)) (j0q (z4q (nth lb k) f 0 cr))) br (q4k _ _) (by omega)
   have w7 := q4k (v7q (nth M (off + k)) (j0q (z4q (nth lb k) f 0 cr))) br
   go_wp2_with fail
   refine (q5y (HB.o.only0 hon hne) k).mono ?_
   rintro en w2 ⟨rfl, rfl⟩
   go_wp2_with fail
   go_roundw
   case rel =>
    have hw := i2q (nth M (off + k)) (j0q (z4q (nth lb k) f 0 cr)) br hx hlow hbr
    exact ⟨k + 1, z4q (nth lb k) f 0 cr / 4294967296, v7q (v7q (nth M (off + k)) (j0q (z4q (nth lb k) f 0 cr))) br / 9223372036854775808, M.set (off + k) (v7q (v7q (nth M (off + k)) (j0q (z4q (nth lb k) f 0 cr))) br % 4294967296),
     by omega, by go_num, by go_num, by go_num, hw.2, by omega, hdd (fun h => by rw [p5q (by omega)]; unfold z4q; have := hcr; omega), hM.setCell (off + k) _ _ (by unfold U; go_num), hdd (u0q hMw.o _ (by omega)),
     hdd (by rw [List.length_set]; exact hMl.o), hon.setCell _ _, hdd (fun j hj => by rw [u8q _ _ _ _ (by omega)]; exact hsame.o j (by omega)),
     hdd (x1z (by have := hMl.o; omega) hx hbr (hsame.o _ (by omega)) hval.o)⟩
   case measure => simp [intOf]; omega
  ·
   obtain rfl : k = n := by omega
   have hc0 := hz.o hlb
   subst hc0
   go_wp2_with fail
   go_ret
   refine ⟨M, br, d1q (by rw [Bool.eq_iff_iff]; simp; omega), hbr, hM, hMw.o, hMl.o, hon, fun j hj => hsame.o j hj, ?_⟩
   have h := hval.o
   rw [w4q (by omega), Nat.add_zero] at h
   exact h

theorem u1v (hg : g * f + rest = h) (hgt : rest * 4294967296 + a2 < g * s) (hA : A < (h * 4294967296 + a2 + 1) * Bn) (hb : (f * 4294967296 + s) * Bn ≤ b) (hb0 : 0 < b) : A / b < g := by
 have h1 : (h * 4294967296 + a2 + 1) ≤ g * (f * 4294967296 + s) := by
  subst hg
  have : g * (f * 4294967296 + s) = g * f * 4294967296 + g * s := by grind
  rw [this, Nat.add_mul]; omega
 have h2 := Nat.mul_le_mul_right Bn h1
 have h3 := Nat.mul_le_mul_left g hb
 refine (Nat.div_lt_iff_lt_mul hb0).2 ?_
 have : g * (f * 4294967296 + s) * Bn = g * ((f * 4294967296 + s) * Bn) := Nat.mul_assoc _ _ _
 omega

theorem u6k (hg : g * f + rest = h) (hle : g * s ≤ rest * 4294967296 + a2) (hgB : g < 4294967296) (hf : 2147483648 ≤ f) (hA : (h * 4294967296 + a2) * Bn ≤ A) (hb : b = (f * 4294967296 + s) * Bn + bl) (hbl : bl < Bn) : g ≤ A / b + 1 := by
 have hb0 : 0 < b := by
  have h0 : 0 < (f * 4294967296 + s) * Bn := Nat.mul_pos (by omega) (by omega)
  omega
 rcases Nat.eq_zero_or_pos g with h0 | h0
 ·
  rw [h0]; exact Nat.zero_le _
 obtain ⟨k, rfl⟩ : ∃ k, g = k + 1 := ⟨g - 1, by omega⟩
 have h1 : (k + 1) * (f * 4294967296 + s) ≤ h * 4294967296 + a2 := by
  subst hg
  have : (k + 1) * (f * 4294967296 + s) = (k + 1) * f * 4294967296 + (k + 1) * s := by grind
  rw [this, Nat.add_mul]; omega
 have h2 := Nat.mul_le_mul_right Bn h1
 have h3 : (k + 1) * bl ≤ 4294967296 * Bn := Nat.mul_le_mul (by omega) (by omega)
 have h4 : 4294967296 * Bn ≤ (f * 4294967296 + s) * Bn := Nat.mul_le_mul_right _ (by omega)
 have h5 : k * b ≤ A := by
  have e : (k + 1) * b = (k + 1) * (f * 4294967296 + s) * Bn + (k + 1) * bl := by rw [hb]; grind
  have e2 : (k + 1) * b = k * b + b := by grind
  omega
 have := (Nat.le_div_iff_mul_le hb0).2 h5
 omega

theorem z0k (hA : A < (h * 4294967296 + a2 + 1) * Bn) (ha2 : a2 < 4294967296) (hf : 0 < f) (hBn : 0 < Bn) (hb : f * 4294967296 * Bn ≤ b) : A / b ≤ h / f := by
 have hb0 : 0 < b := Nat.lt_of_lt_of_le (Nat.mul_pos (Nat.mul_pos hf (by omega)) hBn) hb
 have h1 : h + 1 ≤ (h / f + 1) * f := by
  have := Nat.mod_add_div h f
  have := Nat.mod_lt h hf
  rw [Nat.add_mul, Nat.mul_comm (h / f)]; omega
 have h2 : (h * 4294967296 + a2 + 1) * Bn ≤ (h + 1) * 4294967296 * Bn := Nat.mul_le_mul_right _ (by omega)
 have h3 : (h + 1) * 4294967296 * Bn ≤ (h / f + 1) * f * 4294967296 * Bn := Nat.mul_le_mul_right _ (Nat.mul_le_mul_right _ h1)
 have h4 : (h / f + 1) * (f * 4294967296 * Bn) ≤ (h / f + 1) * b := Nat.mul_le_mul_left _ hb
 have e : (h / f + 1) * f * 4294967296 * Bn = (h / f + 1) * (f * 4294967296 * Bn) := by grind
 refine Nat.le_of_lt_succ ((Nat.div_lt_iff_lt_mul hb0).2 ?_)
 show A < (h / f + 1) * b
 omega

theorem k0x (hn : 2 ≤ n) (hl : l.length = n + 1) : val l = (y4q (nth l n) (nth l (n - 1)) * 4294967296 + nth l (n - 2)) * 4294967296 ^ (n - 2) + pv l 0 (n - 2) := by
 have e : val l = pv l 0 ((n - 2) + 1 + 1 + 1) := by rw [y8q (by omega)]
 obtain ⟨k, rfl⟩ : ∃ k, n = k + 2 := ⟨n - 2, by omega⟩
 simp only [Nat.add_sub_cancel] at *
 rw [e, v2q, v2q, v2q]
 simp only [Nat.zero_add, Nat.pow_succ]
 unfold y4q
 rw [show k + 2 - 1 = k + 1 from rfl]
 generalize 4294967296 ^ k = p
 grind
theorem k0v (hn : 2 ≤ n) (hl : l.length = n) : val l = (nth l (n - 1) * 4294967296 + nth l (n - 2)) * 4294967296 ^ (n - 2) + pv l 0 (n - 2) := by
 have e : val l = pv l 0 ((n - 2) + 1 + 1) := by rw [y8q (by omega)]
 obtain ⟨k, rfl⟩ : ∃ k, n = k + 2 := ⟨n - 2, by omega⟩
 simp only [Nat.add_sub_cancel] at *
 rw [e, v2q, v2q]
 simp only [Nat.zero_add, Nat.pow_succ]
 rw [show k + 2 - 1 = k + 1 from rfl]
 generalize 4294967296 ^ k = p
 grind
theorem v2v (hg : g * f + rest = h) (hr : 4294967296 ≤ rest) (hh : h ≤ f * 4294967296 + 4294967295) : g < 4294967296 := by
 rcases Nat.lt_or_ge g 4294967296 with h1 | h1
 ·
  exact h1
 ·
  have := Nat.mul_le_mul_right f h1
  omega

theorem y5v {an an1 : Nat} (hA : A = (y4q an an1 * 4294967296 + a2) * Bn + r) (hb : b = (f * 4294967296 + s) * Bn + bl) (hbl : bl < Bn) (hs : s < 4294967296) (hAb : A < 4294967296 * b) : an ≤ f := by
 refine Nat.le_of_lt_succ (show an < f + 1 from Nat.lt_of_mul_lt_mul_right (a := 4294967296 * 4294967296 * Bn) ?_)
 have h1 : an * (4294967296 * 4294967296 * Bn) ≤ (y4q an an1 * 4294967296 + a2) * Bn := by
  have e : an * (4294967296 * 4294967296 * Bn) = (an * 4294967296 * 4294967296) * Bn := by grind
  rw [e]; refine Nat.mul_le_mul_right _ ?_; unfold y4q; omega
 have h2 : 4294967296 * b ≤ 4294967296 * ((f * 4294967296 + s + 1) * Bn) := by
  refine Nat.mul_le_mul_left _ ?_
  rw [hb, Nat.add_mul _ 1]; omega
 have h3 : 4294967296 * ((f * 4294967296 + s + 1) * Bn) ≤ (f + 1) * (4294967296 * 4294967296 * Bn) := by
  have e : (f + 1) * (4294967296 * 4294967296 * Bn) = 4294967296 * (((f + 1) * 4294967296) * Bn) := by grind
  rw [e]; exact Nat.mul_le_mul_left _ (Nat.mul_le_mul_right _ (by omega))
 omega

def b3q (t b : Nat) : Nat := t % b

structure p2q (A b h f g rest : Nat) : Prop where
 sum : g * f + rest = h
 le : A / b ≤ g

theorem p2q.next (hg : p2q A b h f g rest) (hlt : A / b < g) : p2q A b h f (g - 1) (rest + f) := by
 obtain ⟨k, rfl⟩ : ∃ k, g = k + 1 := ⟨g - 1, by
  generalize A / b = q at hlt
  omega⟩
 refine ⟨?_, by rw [Nat.add_sub_cancel]; exact Nat.le_of_lt_succ hlt⟩
 have := hg.sum
 rw [Nat.add_sub_cancel]
 grind

theorem p2q.fits (hg : p2q A b h f g rest) (hgB : g < 4294967296) (hle : g * s ≤ rest * 4294967296 + a2) (hf : 2147483648 ≤ f) (hA : A = (h * 4294967296 + a2) * Bn + r) (hb : b = (f * 4294967296 + s) * Bn + bl) (hbl : bl < Bn) :
  g < 4294967296 ∧ A / b ≤ g ∧ g ≤ A / b + 1 := ⟨hgB, hg.le, u6k hg.sum hle hgB hf (by omega) hb hbl⟩

theorem p2q.down (hg : p2q A b h f g rest) (hgt : rest * 4294967296 + a2 < g * s) (hA : A = (h * 4294967296 + a2) * Bn + r) (hr : r < Bn) (hb : b = (f * 4294967296 + s) * Bn + bl) (hb0 : 0 < b) : A / b < g :=
 u1v (Bn := Bn) hg.sum hgt (by rw [hA, Nat.add_mul _ 1, Nat.one_mul]; omega) (by rw [hb]; omega) hb0

theorem p2q.broke (hg : p2q A b h f g rest) (hr : 4294967296 ≤ rest) (hh : h ≤ f * 4294967296 + 4294967295) (hs : s < 4294967296) (hf : 2147483648 ≤ f) (hA : A = (h * 4294967296 + a2) * Bn + r) (hb : b = (f * 4294967296 + s) * Bn + bl) (hbl : bl < Bn) :
  g < 4294967296 ∧ A / b ≤ g ∧ g ≤ A / b + 1 := by
 have hgB := v2v hg.sum hr hh
 refine hg.fits hgB ?_ hf hA hb hbl
 have h1 : g * s ≤ 4294967296 * 4294967296 := Nat.mul_le_mul (by omega) (by omega)
 omega

theorem g0k (hu : IsW w u l) (hv : IsW w v m) (hn : 2 ≤ n) (hl : l.length = n + 1) (hm : m.length = n) (htop : 2147483648 ≤ nth m (n - 1)) (hA : val l < 4294967296 * val m) :
  Calls Tryz.prog 166 #[u, v] w fun e w' => (∃ g : Nat, e = .returned (.int .u64 g) ∧ g < 4294967296 ∧ val l / val m ≤ g ∧ g ≤ val l / val m + 1) ∧ ∃ k, w' = w.drewN k := by
 have t3 := hdd (k0x hn hl)
 have t2 := hdd (k0v hn hm)
 have HA := hdd hA
 have HL := hdd hl
 have HM := hdd hm
 have bn := y1q hu.ws n
 have bn1 := y1q hu.ws (n - 1)
 have bn2 := y1q hu.ws (n - 2)
 have bf := y1q hv.ws (n - 1)
 have bs := y1q hv.ws (n - 2)
 have hWu := hdd hu.ws
 have hWv := hdd hv.ws
 obtain ⟨a, cap, rfl, h1, h2, h3, h4, h5⟩ := id hu
 obtain ⟨b, bcap, rfl, k1, k2, k3, k4, k5⟩ := id hv
 obtain ⟨ab, aoff, rfl, -, -⟩ := h4 (by intro e; simp at e; subst e; simp at hl)
 obtain ⟨bb, boff, rfl, -, -⟩ := k4 (by intro e; simp at e; subst e; simp at hm; omega)
 have c1 := hu.cell n (by omega)
 have c2 := hu.cell (n - 1) (by omega)
 have c3 := hu.cell (n - 2) (by omega)
 have c4 := hv.cell (n - 1) (by omega)
 have c5 := hv.cell (n - 2) (by omega)
 rw [hl] at h1 h2 hu
 rw [hm] at k1 k2 hv
 rw [hl, hm]
 have w1 : IntKind.u64.wrap (nth l n : Int) = (nth l n : Int) := IntWalk.u64_in _ (by omega)
 have w2 : IntKind.u64.wrap (nth l (n - 1) : Int) = (nth l (n - 1) : Int) := IntWalk.u64_in _ (by omega)
 have w3 : IntKind.u64.wrap (nth m (n - 1) : Int) = (nth m (n - 1) : Int) := IntWalk.u64_in _ (by omega)
 have w4 : IntKind.u64.wrap (nth m (n - 2) : Int) = (nth m (n - 2) : Int) := IntWalk.u64_in _ (by omega)
 have w5 := j8x (nth l n) bn
 have w6 := w7q bn bn1
 have hf0 : 0 < nth m (n - 1) := by omega
 have q1 : IntKind.u64.wrap ((y4q (nth l n) (nth l (n - 1)) : Int).tdiv (nth m (n - 1) : Int)) = (x4q (y4q (nth l n) (nth l (n - 1))) (nth m (n - 1)) : Int) := by
  have h := w5q (y4q (nth l n) (nth l (n - 1))) (nth m (n - 1)) (i5q bn bn1)
  rw [Int.tdiv_eq_ediv_of_nonneg (by omega)]; exact h
 have q2 : (y4q (nth l n) (nth l (n - 1)) : Int).tmod (nth m (n - 1) : Int) = (b3q (y4q (nth l n) (nth l (n - 1))) (nth m (n - 1)) : Int) := by
  rw [Int.tmod_eq_emod_of_nonneg (by omega)]; rfl
 have hfn : ¬ (nth m (n - 1) = 0) := by omega
 have hstart : Hi (p2q (val l) (val m) (y4q (nth l n) (nth l (n - 1))) (nth m (n - 1)) (x4q (y4q (nth l n) (nth l (n - 1))) (nth m (n - 1))) (b3q (y4q (nth l n) (nth l (n - 1))) (nth m (n - 1)))) := hdd
  ⟨by unfold x4q b3q; rw [Nat.mul_comm]; exact Nat.div_add_mod _ _,
   by
   refine z0k (a2 := nth l (n - 2)) (Bn := 4294967296 ^ (n - 2)) ?_ bn2 hf0 (Nat.pow_pos (by omega)) ?_
   ·
    rw [t3.o, Nat.add_mul _ 1, Nat.one_mul]; have := l2q hWu.o 0 (n - 2); omega
   ·
    rw [t2.o, Nat.add_mul]; omega⟩
 have hrem : b3q (y4q (nth l n) (nth l (n - 1))) (nth m (n - 1)) < 4294967296 := by
  have := Nat.mod_lt (y4q (nth l n) (nth l (n - 1))) hf0; unfold b3q; omega
 have hhf : Hi (y4q (nth l n) (nth l (n - 1)) ≤ nth m (n - 1) * 4294967296 + 4294967295) := hdd (by
  have e3 := t3.o
  have e2 := t2.o
  have e1 := l2q hWv.o 0 (n - 2)
  generalize 4294967296 ^ (n - 2) = Bn at e3 e2 e1
  have h := y5v e3 e2 e1 bs hA
  unfold y4q; omega)
 have hquo : x4q (y4q (nth l n) (nth l (n - 1))) (nth m (n - 1)) < 18446744073709551616 := by
  have h9 := i5q bn bn1
  have h8 := Nat.div_le_self (y4q (nth l n) (nth l (n - 1))) (nth m (n - 1))
  unfold x4q
  omega
 have q3 := w5q (y4q (nth l n) (nth l (n - 1))) (nth m (n - 1)) (i5q bn bn1)
 have hb0 : Hi (0 < val m) := hdd (by
  rw [t2.o]
  have h9 : 0 < (nth m (n - 1) * 4294967296 + nth m (n - 2)) * 4294967296 ^ (n - 2) := Nat.mul_pos (by omega) (Nat.pow_pos (by omega))
  omega)
 have hqB : Hi (val l / val m < 4294967296) := hdd ((Nat.div_lt_iff_lt_mul hb0.o).2 hA)
 have hbl := hdd (l2q hWv.o 0 (n - 2))
 have hrl := hdd (l2q hWu.o 0 (n - 2))
 clear hu hv h3 h4 h5 k3 k4 k5 hA hl hm
 have HFN := hdd hfn
 have HF0 := hdd hf0
 have HTOP := hdd htop
 clear htop
 go_enter Tryz.func166, Tryz.ntmps166
 go_wp2_with fail
 go_quiet (fail)
 go_wp2_with fail
 clear w1 w2 w3 w4 w5 w6
 go_quiet (fail)
 clear q1 q2 q3
 go_wp2_with fail
 go_loop [9, 10] (fun g r => ∃ gn rn : Nat, g = .int .u64 gn ∧ r = .int .u64 rn ∧ rn < 4294967296 ∧ gn < 18446744073709551616 ∧ Hi (p2q (val l) (val m) (y4q (nth l n) (nth l (n - 1))) (nth m (n - 1)) gn rn)) (fun g _ => (intOf g).toNat)
 case atStart => exact ⟨_, _, rfl, rfl, hrem, hquo, hstart⟩
 case round =>
  obtain ⟨g, r, rfl, rfl, hr, hg, hat⟩ := hrel
  by_cases hbigG : 4294967296 ≤ g
  ·
   have hd : decide ((4294967296 : Int) ≤ (g : Int)) = true := by simp; omega
   have HBG := hdd hbigG
   have hg1 : 1 ≤ g := by omega
   clear hbigG
   by_cases hbr : 4294967296 ≤ r + nth m (n - 1)
   ·
    have hd2 : decide ((4294967296 : Int) ≤ (r : Int) + (nth m (n - 1) : Int)) = true := by simp; omega
    have HBR := hdd hbr
    clear hbr
    have hnext := hdd (hat.o.next (Nat.lt_of_lt_of_le hqB.o HBG.o))
    go_wp2_with fail
    go_ret
    exact ⟨⟨g - 1, g4q (by go_num), hnext.o.broke HBR.o hhf.o bs HTOP.o t3.o t2.o hbl.o⟩, _, rfl⟩
   ·
    have hd2 : decide ((4294967296 : Int) ≤ (r : Int) + (nth m (n - 1) : Int)) = false := by simp; omega
    have HBR := hdd hbr
    clear hbr
    have hnext := hdd (hat.o.next (Nat.lt_of_lt_of_le hqB.o HBG.o))
    go_wp2_with fail
    exact ⟨⟨g - 1, by omega, r + nth m (n - 1), by omega, by have := HBR.o; omega, by omega, hnext⟩, by simp [intOf]; omega⟩
  ·
   have hd : decide ((4294967296 : Int) ≤ (g : Int)) = false := by simp; omega
   have hg2 : g < 4294967296 := by omega
   have m1 := d9q hg2 bs
   have m2 := w7q hr bn2
   have m3 := j8x r hr
   clear hbigG
   by_cases hgt : y4q r (nth l (n - 2)) < z4q g (nth m (n - 2)) 0 0
   ·
    have hd3 : decide (y4q r (nth l (n - 2)) < z4q g (nth m (n - 2)) 0 0) = true := by simpa using hgt
    have HGT := hdd hgt
    have hnext := hdd (hat.o.next (hat.o.down (a2 := nth l (n - 2)) (s := nth m (n - 2)) (by have h9 := hgt; unfold y4q z4q at h9; omega) t3.o hrl.o t2.o hb0.o))
    have hg1 : 1 ≤ g := by have := hnext.o.le; have h9 := hgt; unfold y4q z4q at h9; rcases Nat.eq_zero_or_pos g with h0 | h0; (subst h0; simp at h9); exact h0
    clear hgt
    by_cases hbr : 4294967296 ≤ r + nth m (n - 1)
    ·
     have hd2 : decide ((4294967296 : Int) ≤ (r : Int) + (nth m (n - 1) : Int)) = true := by simp; omega
     have HBR := hdd hbr
     clear hbr
     go_wp2_with fail
     go_ret
     exact ⟨⟨g - 1, g4q (by go_num), hnext.o.broke HBR.o hhf.o bs HTOP.o t3.o t2.o hbl.o⟩, _, rfl⟩
    ·
     have hd2 : decide ((4294967296 : Int) ≤ (r : Int) + (nth m (n - 1) : Int)) = false := by simp; omega
     have HBR := hdd hbr
     clear hbr
     go_wp2_with fail
     exact ⟨⟨g - 1, by omega, r + nth m (n - 1), by omega, by have := HBR.o; omega, by omega, hnext⟩, by simp [intOf]; omega⟩
   ·
    have hd3 : decide (y4q r (nth l (n - 2)) < z4q g (nth m (n - 2)) 0 0) = false := by simpa using hgt
    have hfit := hdd (hat.o.fits (a2 := nth l (n - 2)) (s := nth m (n - 2)) hg2 (by have h9 := hgt; unfold y4q z4q at h9; omega) HTOP.o t3.o t2.o hbl.o)
    clear hgt
    go_wp2_with fail
    go_ret
    exact ⟨⟨g, rfl, hfit.o⟩, _, rfl⟩
theorem v5x (hp : p + Y * g = A) (hY : 0 < Y) (hq : A / Y ≤ g) (_h : p < P) : g = A / Y ∧ p = A % Y := by
 have h1 : g ≤ A / Y := (Nat.le_div_iff_mul_le hY).2 (by rw [Nat.mul_comm]; omega)
 have h2 : g = A / Y := by
  generalize A / Y = q at *
  omega
 refine ⟨h2, ?_⟩
 have := Nat.div_add_mod A Y
 rw [← h2] at this
 omega

theorem y5z (hp : p + Y * g = A + P) (hY : 0 < Y) (hq : g ≤ A / Y + 1) (hpP : p < P) (hAP : A % Y < P) : g = A / Y + 1 ∧ (p + Y) % P = A % Y := by
 have h0 := Nat.div_add_mod A Y
 have hlt := Nat.mod_lt A hY
 have h2 : g = A / Y + 1 := by
  generalize A / Y = q at *
  generalize A % Y = r at *
  rcases Nat.lt_or_ge g (q + 1) with h | h
  ·
   have := Nat.mul_le_mul_left Y (Nat.le_of_lt_succ h)
   omega
  ·
   omega
 refine ⟨h2, ?_⟩
 rw [h2, Nat.mul_add, Nat.mul_one] at hp
 have : p + Y = A % Y + P := by omega
 rw [this, Nat.add_mod_right, Nat.mod_eq_of_lt hAP]

theorem j6y {M' Qt : List Nat} {i Q : Nat} (hA : A = pv M i (n + 1)) (hN : N = Q + n) (hi : i < Q) (hQ : Qt.length = Q) (hY : Y ≤ 4294967296 ^ n) (hY0 : 0 < Y)
  (hM' : pv M' i (n + 1) = A % Y) (hout : ∀ j, (j < i ∨ i + (n + 1) ≤ j) → nth M' j = nth M j) (hz : ∀ j, i + 1 + n ≤ j → nth M j = 0) (hlow : ∀ j, j < i + 1 → nth M j = nth M0 j)
  (hsum : pv Qt (i + 1) (Q - (i + 1)) * Y + pv M (i + 1) n = pv M0 (i + 1) (N - (i + 1))) :
  (∀ j, i + n ≤ j → nth M' j = 0) ∧ pv M' i n < Y ∧ (∀ j, j < i → nth M' j = nth M0 j) ∧ pv (Qt.set i (A / Y)) i (Q - i) * Y + pv M' i n = pv M0 i (N - i) := by
 have hlt := Nat.mod_lt A hY0
 have e1 := v2q M' i n
 have hp : 0 < 4294967296 ^ n := Nat.pow_pos (by omega)
 have htop : nth M' (i + n) = 0 := by
  rcases Nat.eq_zero_or_pos (nth M' (i + n)) with h | h
  ·
   exact h
  ·
   have := Nat.mul_le_mul_left (4294967296 ^ n) h
   rw [Nat.mul_one] at this
   omega
 have hn : pv M' i n = A % Y := by rw [← hM', e1, htop]; simp
 refine ⟨fun j hj => ?_, by omega, fun j hj => by rw [hout j (Or.inl hj)]; exact hlow j (by omega), ?_⟩
 ·
  rcases Nat.lt_or_ge (i + n) j with h | h
  ·
   rw [hout j (Or.inr (by omega))]; exact hz j (by omega)
  ·
   rw [show j = i + n by omega]; exact htop
 ·
  rw [show Q - i = (Q - (i + 1)) + 1 by omega, show N - i = (N - (i + 1)) + 1 by omega, c5q, c5q M0, w2q _ _ _ (by omega), l1q (m := Qt) (fun j _ => u8q _ _ _ _ (by omega)), hn, ← hsum, ← hlow i (by omega)]
  have e2 : A = nth M i + 4294967296 * pv M (i + 1) n := by rw [hA, c5q]
  have h0 := Nat.div_add_mod A Y
  generalize A / Y = q at *
  generalize A % Y = r at *
  grind

theorem z4y {x y la : Nat} (hv : val M0 = x * 2 ^ s) (hlen : M0.length = la + 1) (hx : x < 4294967296 ^ la) (hs : s < 32) (hn : 0 < n) (hN : n ≤ la) (hY : 4294967296 ^ (n - 1) * 2147483648 ≤ y * 2 ^ s) : pv M0 (la + 1 - n) n < y * 2 ^ s := by
 have e : val M0 = pv M0 0 (la + 1 - n) + 4294967296 ^ (la + 1 - n) * pv M0 (la + 1 - n) n := by
  rw [← y8q (k := (la + 1 - n) + n) (by omega), o1q, Nat.zero_add]
 refine Nat.lt_of_lt_of_le ?_ hY
 apply Nat.lt_of_mul_lt_mul_left (a := 4294967296 ^ (la + 1 - n))
 have e2 : 4294967296 ^ (la + 1 - n) * (4294967296 ^ (n - 1) * 2147483648) = 4294967296 ^ la * 2147483648 := by
  rw [← Nat.mul_assoc, ← Nat.pow_add, show la + 1 - n + (n - 1) = la by omega]
 rw [e2]
 have h1 : x * 2 ^ s < 4294967296 ^ la * 2147483648 := by
  have h2 : 2 ^ s ≤ 2 ^ 31 := Nat.pow_le_pow_right (by omega) (by omega)
  have h3 : x * 2 ^ s < 4294967296 ^ la * 2 ^ s := Nat.mul_lt_mul_of_pos_right hx (Nat.pow_pos (by omega))
  exact Nat.lt_of_lt_of_le h3 (Nat.mul_le_mul_left _ h2)
 omega
theorem y0j {y : Nat} (hm : m = q2q y) (h0 : 0 < m.length) (hlo : 2147483648 ≤ nth m (m.length - 1) * 2 ^ s) (hhi : nth m (m.length - 1) * 2 ^ s < 4294967296) :
  (q2q (y * 2 ^ s)).length = m.length ∧ 2147483648 ≤ nth (q2q (y * 2 ^ s)) (m.length - 1) ∧ 4294967296 ^ (m.length - 1) * 2147483648 ≤ y * 2 ^ s ∧ y * 2 ^ s < 4294967296 ^ m.length := by
 have e : val m = pv m 0 (m.length - 1) + 4294967296 ^ (m.length - 1) * nth m (m.length - 1) := by
  have := v2q m 0 (m.length - 1)
  rw [Nat.sub_add_cancel h0, Nat.zero_add, y8q rfl] at this
  exact this
 have hy : val m = y := by rw [hm, j6q]
 have hl := l2q (l := m) (by rw [hm]; exact s5q _) 0 (m.length - 1)
 rw [hy] at e
 have h1 : 4294967296 ^ (m.length - 1) * 2147483648 ≤ y * 2 ^ s := by
  have h2 := Nat.mul_le_mul_left (4294967296 ^ (m.length - 1)) hlo
  have h3 : 4294967296 ^ (m.length - 1) * (nth m (m.length - 1) * 2 ^ s) ≤ y * 2 ^ s := by
   rw [← Nat.mul_assoc]; exact Nat.mul_le_mul_right _ (by omega)
  omega
 have h4 : y * 2 ^ s < 4294967296 ^ m.length := by
  have h5 : y + 1 ≤ 4294967296 ^ (m.length - 1) * (nth m (m.length - 1) + 1) := by rw [Nat.mul_add, Nat.mul_one]; omega
  have h6 : 4294967296 ^ (m.length - 1) * ((nth m (m.length - 1) + 1) * 2 ^ s) ≤ 4294967296 ^ (m.length - 1) * 4294967296 := by
   refine Nat.mul_le_mul_left _ ?_
   have hs : s < 32 := by
    rcases Nat.lt_or_ge s 32 with h | h
    ·
     exact h
    ·
     exfalso
     have h7 : 2 ^ 32 ≤ 2 ^ s := Nat.pow_le_pow_right (by omega) h
     have h8 : 0 < nth m (m.length - 1) := by
      rcases Nat.eq_zero_or_pos (nth m (m.length - 1)) with h9 | h9
      ·
       rw [h9] at hlo; simp at hlo
      ·
       exact h9
     have := Nat.mul_le_mul h8 h7
     omega
   have hd : 2 ^ s ∣ 4294967296 := ⟨2 ^ (32 - s), by rw [← Nat.pow_add, show s + (32 - s) = 32 by omega]⟩
   obtain ⟨c, hc⟩ := hd
   have h9 : nth m (m.length - 1) < c := by
    apply Nat.lt_of_mul_lt_mul_right (a := 2 ^ s)
    rw [Nat.mul_comm c, ← hc]; exact hhi
   rw [hc, Nat.mul_comm (2 ^ s) c]
   exact Nat.mul_le_mul_right _ h9
  have h7 : 4294967296 ^ m.length = 4294967296 ^ (m.length - 1) * 4294967296 := by rw [← Nat.pow_succ]; congr 1; omega
  have h8 := Nat.mul_le_mul_right (2 ^ s) h5
  rw [Nat.add_mul, Nat.mul_assoc] at h8
  have h10 : 0 < 2 ^ s := Nat.pow_pos (by omega)
  rw [h7]; omega
 have hlen : (q2q (y * 2 ^ s)).length = m.length := by
  have h5 := x0q.2 h4
  rcases Nat.lt_or_ge (q2q (y * 2 ^ s)).length m.length with h | h
  ·
   exfalso
   have h6 := x0q.1 (show (q2q (y * 2 ^ s)).length ≤ m.length - 1 by omega)
   have h7 : 4294967296 ^ (m.length - 1) * 1 ≤ 4294967296 ^ (m.length - 1) * 2147483648 := Nat.mul_le_mul_left _ (by omega)
   omega
  ·
   omega
 refine ⟨hlen, ?_, h1, h4⟩
 have e2 : y * 2 ^ s = pv (q2q (y * 2 ^ s)) 0 (m.length - 1) + 4294967296 ^ (m.length - 1) * nth (q2q (y * 2 ^ s)) (m.length - 1) := by
  have := v2q (q2q (y * 2 ^ s)) 0 (m.length - 1)
  rw [Nat.sub_add_cancel h0, Nat.zero_add, y8q hlen, j6q] at this
  exact this
 have hl2 := l2q (s5q (y * 2 ^ s)) 0 (m.length - 1)
 rcases Nat.lt_or_ge (nth (q2q (y * 2 ^ s)) (m.length - 1)) 2147483648 with h | h
 ·
  exfalso
  have h3 : 4294967296 ^ (m.length - 1) * (nth (q2q (y * 2 ^ s)) (m.length - 1) + 1) ≤ 4294967296 ^ (m.length - 1) * 2147483648 := Nat.mul_le_mul_left _ h
  rw [Nat.mul_add, Nat.mul_one] at h3
  omega
 ·
  exact h

theorem u5w {x y : Nat} (hx : l = q2q x) (hy : m = q2q y) (hu : IsW w u l) (hv : IsW w v m) (h2 : 2 ≤ m.length) (hle : m.length ≤ l.length) (hlb : l.length < 1073741824) :
  Calls Tryz.prog 151 #[u, v] w fun e w' => (∃ q r, e = .returned (.tuple #[q, r]) ∧ IsW w' q (q2q (x / y)) ∧ IsW w' r (q2q (x % y)) ∧ (∀ b, q.ownBlock = some b → w.heap.size ≤ b) ∧ (∀ b, r.ownBlock = some b → w.heap.size ≤ b)) ∧ Below w.heap.size w w' := by
 have HX := hdd hx
 have HY := hdd hy
 have HU := hdd hu
 have HV := hdd hv
 have htop : nth m (m.length - 1) ≠ 0 := o8q (by rw [hy]; exact n0q _) (by intro e; rw [e] at h2; simp at h2)
 have HT := hdd htop
 obtain ⟨a, cap, rfl, i1, i2, i3, i4, i5⟩ := hu
 obtain ⟨b, bcap, rfl, k1, k2, k3, k4, k5⟩ := hv
 clear i3 i4 i5 k3 k4 k5 hx hy htop
 go_enter Tryz.func151, Tryz.ntmps151
 go_wp2_with fail
 refine (j1j HV.o (by omega) HT.o).mono ?_
 rintro en w0 ⟨⟨s, rfl, hs, hlo, hhi⟩, rfl⟩
 have HN := hdd (y0j HY.o (by omega) hlo hhi)
 clear hlo hhi
 go_wp2_with fail
 refine (z1z HU.o s hs hlb).mono ?_
 rintro en w1 ⟨⟨M0, rfl, hM0, hM0w, hM0l, hM0v⟩, hbel1, hsz1⟩
 have HM0w := hdd hM0w
 have HM0l := hdd hM0l
 have HM0v := hdd hM0v
 have HSZ1 := hdd hsz1
 clear hM0w hM0l hM0v hsz1
 go_wp2_with fail
 refine (z1z (HV.o.below hbel1) s hs (by omega)).mono ?_
 rintro en w2 ⟨⟨Mb, rfl, hMb, hMbw, hMbl, hMbv⟩, hbel2, hsz2⟩
 have HSZ2 := hdd hsz2
 have hIb := hMb.isW_all hMbw (m.length + 1) (by omega) (by omega)
 rw [hMbl] at hIb
 have HIb := hdd hIb
 have HMbv : Hi (val Mb = y * 2 ^ s) := hdd (by rw [hMbv, HY.o, j6q])
 clear hMbw hMbl hMbv hsz2 hIb
 go_wp2_with fail
 refine (s4q HIb.o HMbv.o).mono ?_
 rintro en w2' ⟨⟨bv, rfl, hbv, hbown⟩, rfl⟩
 obtain ⟨mb, hmb⟩ := qx (q2q (y * 2 ^ s))
 have hmbl : mb.length = m.length := by rw [hmb]; exact HN.o.1
 have hmbt : 2147483648 ≤ nth mb (m.length - 1) := by rw [hmb]; exact HN.o.2.1
 have hmbv : Hi (val mb = y * 2 ^ s) := hdd (by rw [hmb, j6q])
 rw [← hmb] at hbv
 have hB1 : Hi (bv.ownBlock ≠ some w.heap.size) := hdd (fun e => by
  have h := hbown _ e
  simp [Value.ownBlock] at h
  have := HSZ1.o; omega)
 have hB3 : Hi (∀ b, bv.ownBlock = some b → b = w1.heap.size) := hdd (fun b e => by
  have h := hbown _ e
  simpa [Value.ownBlock, eq_comm] using h)
 have HBV := hdd hbv
 obtain ⟨ba, bc, hbe⟩ : ∃ ba bc, bv = .slice ba m.length bc := by obtain ⟨ba, bc, hbe, -⟩ := hbv; exact ⟨ba, bc, by rw [hbe, hmbl]⟩
 subst hbe
 have HMBL := hdd hmbl
 clear hbv hbown hmb hmbl
 have hb1_2 := hM0.below hbel2 (by have := HSZ1.o; omega)
 have hbel12 := q0q hbel1 hbel2
 obtain ⟨Q, hQ⟩ : ∃ Q, Q + m.length = l.length + 1 := ⟨l.length + 1 - m.length, by omega⟩
 go_wp2_with (at_make; refine w8q rfl _ _ _ _ rfl uw t8q Q _ _ rfl rfl (by omega) (by omega) (by omega) ?_; intro w3 hb3 hbel3 hs3; refine y0q ?_)
 refine z2q ?_
 have hY0 : Hi (0 < y * 2 ^ s) := hdd (by
  have := HN.o.2.2.1
  have h9 : 0 < 4294967296 ^ (m.length - 1) * 2147483648 := Nat.mul_pos (Nat.pow_pos (by omega)) (by omega)
  omega)
 have hst : Hi (pv M0 Q m.length < y * 2 ^ s) := hdd (by
  have h9 := z4y (x := x) (y := y) (s := s) (la := l.length) (n := m.length) (M0 := M0) (by rw [HM0v.o, HX.o, j6q]) HM0l.o (by rw [HX.o]; exact k5q x) hs (by omega) hle HN.o.2.2.1
  rwa [show l.length + 1 - m.length = Q by omega] at h9)
 have hIb3 := HBV.o.below hbel3
 have HIb3 := hdd hIb3
 have hQB := hdd hb3.lt
 have h12 : Hi (w1.heap.size < w2.heap.size ∧ w.heap.size < w1.heap.size) := hdd ⟨by have := HSZ2.o; omega, by have := HSZ1.o; omega⟩
 have HM03 := hb1_2.below hbel3 (by have := h12.o; omega)
 clear HBV hIb3 HIb hMb hM0 hb1_2
 go_wp2_with fail
 go_loopw [10] (fun i wr => ∃ (k : Nat) (M Qt : List Nat), k ≤ Q ∧ i = .int .i64 ((k : Int) - 1) ∧ Blk wr w.heap.size 125 M ∧ Hi (Ws M) ∧ Hi (M.length = l.length + 1) ∧ Blk wr w2.heap.size 125 Qt ∧ Hi (Ws Qt) ∧ Hi (Qt.length = Q) ∧
   Hi (IsW wr (.slice ba m.length bc) mb) ∧ Below w.heap.size w wr ∧ Hi (∀ j, k + m.length ≤ j → nth M j = 0) ∧ Hi (pv M k m.length < y * 2 ^ s) ∧ Hi (∀ j, j < k → nth M j = nth M0 j) ∧
   Hi (pv Qt k (Q - k) * (y * 2 ^ s) + pv M k m.length = pv M0 k (l.length + 1 - k))) (fun i _ => (intOf i + 1).toNat)
 case atStart => exact ⟨Q, M0, _, Nat.le_refl _, by go_num, HM03, HM0w, HM0l, hb3, hdd (u4q _), hdd (by simp), HIb3, q5v hbel12 hbel3 (by have := h12.o; omega), hdd (fun j hj => p5q (by have := HM0l.o; omega)), hst, hdd (fun _ _ => rfl),
  hdd (by rw [Nat.sub_self, x2q, show l.length + 1 - Q = m.length by omega]; simp)⟩
 case round =>
  obtain ⟨k, M, Qt, hk, rfl, hM, hMw, hMl, hQt, hQtw, hQtl, hbv, hon, hz, hlt, hlow, hsum⟩ := hrel
  obtain ⟨wo, rfl⟩ : ∃ wo : World, wo = wr := ⟨_, rfl⟩
  by_cases hk0 : 0 < k
  ·
   obtain ⟨i, rfl⟩ : ∃ i, k = i + 1 := ⟨k - 1, by omega⟩
   have hdi : (((i + 1 : Nat) : Int) - 1) = (i : Int) := by omega
   rw [hdi]
   clear hdi hk0
   go_wp2_with fail
   rw [show i + m.length + 1 - i = m.length + 1 by omega]
   have hNQ : l.length + 1 = Q + m.length := by omega
   have HNQ := hdd hNQ
   clear hNQ
   obtain ⟨A, hA⟩ := qx (pv M i (m.length + 1))
   have HA := hdd hA
   have hAB : Hi (A < 4294967296 * (y * 2 ^ s)) := hdd (by
    have h1 := c5q M i m.length
    have h2 := y1q hMw.o i
    have h3 := hlt.o
    rw [← hA] at h1
    have h4 : pv M (i + 1) m.length + 1 ≤ y * 2 ^ s := h3
    have h5 := Nat.mul_le_mul_left 4294967296 h4
    rw [Nat.mul_add] at h5
    omega)
   have hPA := hM.isW hMw.o i (m.length + 1) (m.length + 1) (by have := hMl.o; omega) qm (by omega)
   have hPl : ((M.drop i).take (m.length + 1)).length = m.length + 1 := by have := hMl.o; simp; omega
   have hGu := hdd (g0k hPA hbv.o h2 hPl HMBL.o hmbt (by rw [hmbv.o]; show pv M i (m.length + 1) < _; rw [← hA]; exact hAB.o))
   clear hA hPA hPl
   refine hGu.o.mono ?_
   rintro en wg ⟨⟨g, rfl, hgB, hg1, hg2⟩, ng, rfl⟩
   have hG1 : Hi (A / (y * 2 ^ s) ≤ g ∧ g ≤ A / (y * 2 ^ s) + 1) := hdd (by
    have e : val ((M.drop i).take (m.length + 1)) = A := HA.o.symm
    rw [e, hmbv.o] at hg1 hg2
    exact ⟨hg1, hg2⟩)
   clear hg1 hg2 hGu
   go_wp2_with fail
   refine (v4z (hM.drewN ng) hMw.o (by have := hMl.o; omega) (by have := hMl.o; omega) (hbv.o.drewN ng) (fun _ => hB1.o) hgB (by have := HMBL.o; omega)).mono ?_
   rintro en w5 ⟨L', br, rfl, hbr, hL', hL'w, hL'l, hon5, hout5, hval5⟩
   have HL'w := hdd hL'w
   have HL'l := hdd hL'l
   have HO5 := hdd hout5
   have HV5 : Hi (pv L' i (m.length + 1) + y * 2 ^ s * g = A + 4294967296 ^ (m.length + 1) * br) := hdd (by rw [hmbv.o] at hval5; rw [HA.o]; exact hval5)
   have hLlt := hdd (l2q hL'w i (m.length + 1))
   have hQt5 := (hQt.drewN ng).only hon5 (by have := h12.o; omega)
   have hbv5 := hdd ((hbv.o.drewN ng).only hon5 hB1.o)
   have hbel5 := q4q (q5q hon ng) hon5 qm
   have hYn : Hi (y * 2 ^ s ≤ 4294967296 ^ m.length) := hdd (Nat.le_of_lt HN.o.2.2.2)
   clear hL'w hL'l hout5 hval5 hon5
   by_cases hbr1 : br = 1
   ·
    have hbb : (br == 1) = true := by simp [hbr1]
    have hs1 : Hi (g = A / (y * 2 ^ s) + 1 ∧ (pv L' i (m.length + 1) + y * 2 ^ s) % 4294967296 ^ (m.length + 1) = A % (y * 2 ^ s)) := hdd (by
     have h9 := HV5.o
     rw [hbr1, Nat.mul_one] at h9
     refine y5z h9 hY0.o hG1.o.2 hLlt.o ?_
     have h8 := Nat.mod_lt A hY0.o
     have h7 := hYn.o
     have h6 : 4294967296 ^ m.length * 1 ≤ 4294967296 ^ m.length * 4294967296 := Nat.mul_le_mul_left _ (by omega)
     rw [Nat.pow_succ]; omega)
    have hg1 : 1 ≤ g := by rw [hs1.o.1]; exact Nat.le_add_left _ _
    have hgq : Hi (A / (y * 2 ^ s) = g - 1) := hdd (by rw [hs1.o.1, Nat.add_sub_cancel])
    clear hbr1
    go_wp2_with fail
    refine (c2q hL' HL'w.o (by have := HL'l.o; have := hMl.o; omega) (by have := HL'l.o; have := hMl.o; omega) hbv5.o (fun _ => hB1.o)).mono ?_
    rintro en w6 ⟨rfl, L6, hb6, hw6, hl6, hon6, hs6, hv6⟩
    have HW6 := hdd hw6
    have hfin := hdd (j6y (M := M) (M' := L6) (M0 := M0) (Qt := Qt) (i := i) (n := m.length) (N := l.length + 1) (Q := Q) (Y := y * 2 ^ s) (A := A) HA.o HNQ.o (by omega) hQtl.o hYn.o hY0.o
     (by rw [hv6, hmbv.o]; exact hs1.o.2) (fun j hj => by rw [hs6 j hj]; exact HO5.o j hj) hz.o hlow.o hsum.o)
    have HL6 : Hi (L6.length = l.length + 1) := hdd (by rw [hl6, HL'l.o, hMl.o])
    have hQt6 := hQt5.only hon6 (by have := h12.o; omega)
    have hbv6 := hdd (hbv5.o.only hon6 hB1.o)
    have hbel6 := q4q hbel5 hon6 qm
    have hcQ := hQt6.cell i (by have := hQtl.o; omega)
    have hfree := hQt6.free i
    have hg2 : g - 1 < 4294967296 := by omega
    clear hw6 hl6 hs6 hv6
    go_wp2_with fail
    go_roundw
    case rel =>
     have hset := (z9q.refl w2.heap.size w6).setCell i (Value.int IntKind.u32 ((g : Int) - 1))
     refine ⟨i, L6, Qt.set i (A / (y * 2 ^ s)), by omega, rfl, hb6.only hset (by have := h12.o; omega), HW6, HL6, hQt6.setCell i _ _ (by rw [hgq.o]; unfold U; go_num), hdd (u0q hQtw.o _ (by rw [hgq.o]; exact hg2)),
      hdd (by rw [List.length_set]; exact hQtl.o), hdd (hbv6.o.only hset (fun e => by have := hB3.o _ e; have := h12.o; omega)), q4q hbel6 hset (by have := h12.o; omega),
      hdd hfin.o.1, hdd hfin.o.2.1, hdd hfin.o.2.2.1, hdd hfin.o.2.2.2⟩
    case measure => simp [intOf]
   ·
    have hbr0 : br = 0 := by omega
    have hbb : (br == 1) = false := by simp [hbr0]
    have hs1 : Hi (g = A / (y * 2 ^ s) ∧ pv L' i (m.length + 1) = A % (y * 2 ^ s)) := hdd (by
     have h9 := HV5.o
     rw [hbr0, Nat.mul_zero, Nat.add_zero] at h9
     exact v5x h9 hY0.o hG1.o.1 hLlt.o)
    have hfin := hdd (j6y (M := M) (M' := L') (M0 := M0) (Qt := Qt) (i := i) (n := m.length) (N := l.length + 1) (Q := Q) (Y := y * 2 ^ s) (A := A) HA.o HNQ.o (by omega) hQtl.o hYn.o hY0.o
     hs1.o.2 HO5.o hz.o hlow.o hsum.o)
    have HL5 : Hi (L'.length = l.length + 1) := hdd (by rw [HL'l.o, hMl.o])
    have hcQ := hQt5.cell i (by have := hQtl.o; omega)
    have hfree := hQt5.free i
    have hgq : Hi (A / (y * 2 ^ s) = g) := hdd hs1.o.1.symm
    clear hbr1 hbr0
    go_wp2_with fail
    go_roundw
    case rel =>
     have hset := (z9q.refl w2.heap.size w5).setCell i (Value.int IntKind.u32 (g : Int))
     refine ⟨i, L', Qt.set i (A / (y * 2 ^ s)), by omega, rfl, hL'.only hset (by have := h12.o; omega), HL'w, HL5, hQt5.setCell i _ _ (by rw [hgq.o]; unfold U; go_num), hdd (u0q hQtw.o _ (by rw [hgq.o]; exact hgB)),
      hdd (by rw [List.length_set]; exact hQtl.o), hdd (hbv5.o.only hset (fun e => by have := hB3.o _ e; have := h12.o; omega)), q4q hbel5 hset (by have := h12.o; omega),
      hdd hfin.o.1, hdd hfin.o.2.1, hdd hfin.o.2.2.1, hdd hfin.o.2.2.2⟩
    case measure => simp [intOf]
  ·
   obtain rfl : k = 0 := by omega
   have hqr : Hi (val Qt = x / y ∧ val (M.take m.length) = x % y * 2 ^ s) := hdd (by
    have h9 := hsum.o
    rw [Nat.sub_zero, Nat.sub_zero, y8q hQtl.o, y8q HM0l.o, HM0v.o, HX.o, j6q] at h9
    have h8 := hlt.o
    have e : pv M 0 m.length = val (M.take m.length) := by simp [pv]
    rw [← e]
    have hp : 0 < 2 ^ s := Nat.pow_pos (by omega)
    have hd : x * 2 ^ s / (y * 2 ^ s) = val Qt := by
     rw [← h9, Nat.mul_comm (val Qt), Nat.mul_add_div hY0.o, Nat.div_eq_of_lt h8, Nat.add_zero]
    have hm : x * 2 ^ s % (y * 2 ^ s) = pv M 0 m.length := by
     rw [← h9, Nat.mul_comm (val Qt), Nat.mul_add_mod, Nat.mod_eq_of_lt h8]
    rw [Nat.mul_div_mul_right _ _ hp] at hd
    rw [Nat.mul_mod_mul_right] at hm
    exact ⟨hd.symm, hm.symm⟩)
   have hIq := hQt.isW_all hQtw.o Q (by have := hQtl.o; omega) (by have := hQtl.o; omega)
   rw [hQtl.o] at hIq
   have hIr := hM.isW hMw.o 0 m.length (l.length + 1) (by have := hMl.o; omega) (by omega) (by omega)
   rw [List.drop_zero] at hIr
   have C1 := hdd (s4q (w := wo.drew) hIq hqr.o.1)
   have C2 := hdd (s4q (w := wo.drew) hIr hqr.o.2)
   clear hIq hIr
   go_wp2_with fail
   go_region_with (first | (go_at_call_of 150 (Value.slice (some { block := w2.heap.size, off := 0 }) Q Q); refine C1.o.mono ?_; rintro en w6 ⟨⟨q, rfl, hq, hqo⟩, rfl⟩) | (go_at_call 150; refine C2.o.mono ?_; rintro en w7 ⟨⟨r, rfl, hr, hro⟩, rfl⟩) | (go_at_call 169; refine (v0j hr s hs).mono ?_; rintro en w8 ⟨⟨r2, rfl, hr2, hro2⟩, hbel8⟩))
   all_goals
    rw [j6q, Nat.mul_div_cancel _ (Nat.pow_pos (by omega))] at hr2
    go_wp2_with fail
    go_ret2
    refine ⟨⟨q, r2, rfl, hq.below hbel8, hr2, fun z hz => ?_, fun z hz => ?_⟩, q0q hon (u2q hbel8)⟩
    ·
     have h9 := hqo z hz
     simp [Value.ownBlock] at h9
     have := h12.o
     omega
    ·
     have h9 := hro2 z hz
     have := hon.size
     simp at h9
     omega
theorem s6q {x y : Nat} (hu : IsW w u (q2q x)) (hv : IsW w v (q2q y)) :
  Calls Tryz.prog 122 #[u, v] w fun e w' => e = .returned (.int .i64 (u3q x y)) ∧ (∃ n, w' = w.drewN n) := by
 have := u5x hu hv (n0q x) (n0q y)
 rwa [j6q, j6q] at this

theorem i6q {x : Nat} (h : IsW w v (q2q x)) (hl : (q2q x).length ≤ 2) :
  Calls Tryz.prog 130 #[v] w fun e w' => e = .returned (.int .u64 x) ∧ w = w' := by
 have := g5y h hl
 rwa [j6q] at this

theorem t5q (n : Nat) (hn : n < 18446744073709551616) (w : World) :
  Calls Tryz.prog 128 #[.int .u64 n] w fun e w' => (∃ r, e = .returned r ∧ IsW w' r (q2q n) ∧ (∀ b, r.ownBlock = some b → w.heap.size ≤ b)) ∧ Below w.heap.size w w' := u1y n hn

def g0j (w : World) (u : Value) (x y : Nat) (e : Ending) (w' : World) : Prop :=
 (∃ q r, e = .returned (.tuple #[q, r]) ∧ IsW w' q (q2q (x / y)) ∧ IsW w' r (q2q (x % y)) ∧ (∀ b, q.ownBlock = some b → w.heap.size ≤ b ∨ u.ownBlock = some b) ∧ (∀ b, r.ownBlock = some b → w.heap.size ≤ b ∨ u.ownBlock = some b)) ∧ Below w.heap.size w w'

theorem v1y (h : Ws l) (hl : l.length ≤ 2) : val l < 18446744073709551616 := by
 have h1 := m0q h
 have h2 : 4294967296 ^ l.length ≤ 4294967296 ^ 2 := Nat.pow_le_pow_right (by omega) hl
 have h3 : (4294967296 : Nat) ^ 2 = 18446744073709551616 := rfl
 omega

theorem z4v {x y : Nat} (hu : IsW w u (q2q x)) (hv : IsW w v (q2q y)) (hy : 0 < y) (hl : (q2q x).length < 1073741824) :
  Calls Tryz.prog 127 #[u, v] w (g0j w u x y) := by
 have HU := hdd hu
 have HV := hdd hv
 have HL := hdd hl
 have HY := hdd hy
 clear hu hv hl hy
 by_cases ho : y = 1
 ·
  have ho1 := j7v ho
  have HO := hdd ho
  clear ho
  go_enter Tryz.func127, Tryz.ntmps127
  go_wp2_with fail
  refine (p4q HV.o).mono ?_
  rintro en w1 ⟨rfl, rfl⟩
  go_wp2_with fail
  go_ret2
  refine ⟨⟨u, .slice none 0 0, rfl, ?_, ?_, fun b hb => Or.inr hb, by simp [Value.ownBlock]⟩, Below.refl _ _⟩
  ·
   rw [HO.o, Nat.div_one]; exact HU.o
  ·
   rw [HO.o, Nat.mod_one, y7q]; exact IsW.nil _
 ·
  have ho1 := j4y ho
  have HO := hdd ho
  clear ho
  by_cases hlt : x < y
  ·
   have hc : u3q x y < 0 := by unfold u3q; rw [if_pos hlt]; omega
   have HLT := hdd hlt
   clear hlt
   go_enter Tryz.func127, Tryz.ntmps127
   go_wp2_with fail
   refine (p4q HV.o).mono ?_
   rintro en w1 ⟨rfl, rfl⟩
   go_wp2_with fail
   refine (s6q HU.o HV.o).mono ?_
   rintro en w1 ⟨rfl, n1, rfl⟩
   go_wp2_with fail
   go_ret2
   refine ⟨⟨.slice none 0 0, u, rfl, ?_, ?_, by simp [Value.ownBlock], fun b hb => Or.inr hb⟩, q5q qb _⟩
   ·
    rw [Nat.div_eq_of_lt HLT.o, y7q]; exact IsW.nil _
   ·
    rw [Nat.mod_eq_of_lt HLT.o]; exact HU.o
  ·
   have hc : ¬ u3q x y < 0 := by unfold u3q; rw [if_neg hlt]; split <;> omega
   have HLE : Hi (y ≤ x) := hdd (by omega)
   clear hlt
   by_cases hsh : (q2q x).length ≤ 2
   ·
    have hs1 := j0v hsh
    have HS := hdd hsh
    have HS2 : Hi ((q2q y).length ≤ 2) := hdd (Nat.le_trans (z6q HLE.o) hsh)
    clear hsh
    have bx : x < 18446744073709551616 := by have := v1y (s5q x) HS.o; rwa [j6q] at this
    have w1 := w5q x y bx
    have hq : x4q x y < 18446744073709551616 := by
     have := Nat.div_le_self x y
     unfold x4q; generalize x / y = q at *; omega
    have hr : b3q x y < 18446744073709551616 := by
     have := Nat.mod_le x y
     unfold b3q; generalize x % y = q at *; omega
    have w2 : (x : Int) % (y : Int) = (b3q x y : Int) := by unfold b3q; rw [Int.natCast_emod]
    have hyn : 0 < y := HY.o
    go_enter Tryz.func127, Tryz.ntmps127
    go_wp2_with fail
    refine (p4q HV.o).mono ?_
    rintro en w1 ⟨rfl, rfl⟩
    go_wp2_with fail
    refine (s6q HU.o HV.o).mono ?_
    rintro en w1 ⟨rfl, n1, rfl⟩
    go_wp2_with fail
    refine (q0y (HU.o.drewN n1)).mono ?_
    rintro en w1 ⟨rfl, rfl⟩
    go_wp2_with fail
    refine (i6q (HU.o.drewN n1) HS.o).mono ?_
    rintro en w1 ⟨rfl, rfl⟩
    go_wp2_with fail
    refine (i6q (HV.o.drewN n1) HS2.o).mono ?_
    rintro en w1 ⟨rfl, rfl⟩
    go_wp2_with fail
    refine (t5q (x4q x y) hq _).mono ?_
    rintro en w2 ⟨⟨q, rfl, hq2, hqo⟩, hbel⟩
    have hbel := f5q hbel
    have HQ := hdd hq2
    have HQO := hdd hqo
    clear hq2 hqo
    go_wp2_with fail
    refine (i6q (HU.o.below hbel) HS.o).mono ?_
    rintro en w3 ⟨rfl, rfl⟩
    go_wp2_with fail
    refine (i6q (HV.o.below hbel) HS2.o).mono ?_
    rintro en w3 ⟨rfl, rfl⟩
    go_wp2_with fail
    refine (t5q (b3q x y) hr _).mono ?_
    rintro en w4 ⟨⟨r, rfl, hr2, hro⟩, hbel4⟩
    go_wp2_with fail
    go_ret2
    exact ⟨⟨q, r, rfl, HQ.o.below hbel4, hr2, fun b hb => Or.inl (HQO.o b hb), fun b hb => Or.inl (by have := hro b hb; have := hbel.size; omega)⟩, q0q hbel hbel4⟩
   ·
    have hs1 := q6h hsh
    have HS := hdd hsh
    clear hsh
    obtain ⟨m, hm⟩ := qx (q2q y)
    obtain ⟨l, hll⟩ := qx (q2q x)
    have HM := hdd hm
    have HLL := hdd hll
    have hv := HV.o
    have hu := HU.o
    rw [← hm] at hv
    rw [← hll] at hu
    have HVm := hdd hv
    have HUl := hdd hu
    have hmw := y1q hv.ws 0
    obtain ⟨b, bcap, hbe, k1, k2, k3, k4, k5⟩ := id hv
    subst hbe
    have K4 := hdd k4
    have hm0 : Hi (0 < m.length) := hdd (by rw [HM.o]; exact List.length_pos_iff.2 (fun e => by have := HY.o; have := l9q.1 e; omega))
    clear hm hll hv hu k3 k4 k5
    by_cases h1 : m.length = 1
    ·
     have hd : ((m.length : Int) == 1) = true := by simp [h1]
     obtain ⟨bb, boff, rfl, -, -⟩ := K4.o (by intro e; simp at e; subst e; simp at h1)
     have hcell0 := HVm.o.cell 0 (by omega)
     have hy1 : Hi (val m = nth m 0 ∧ y = nth m 0) := hdd (by
      have e : val m = nth m 0 := by
       have := v2q m 0 0
       rw [x2q, y8q (by omega)] at this
       simpa using this
      exact ⟨e, by rw [← e, HM.o, j6q]⟩)
     have hpos : 0 < nth m 0 := by have := hy1.o.2; have := HY.o; omega
     have H1 := hdd h1
     clear h1
     go_enter Tryz.func127, Tryz.ntmps127
     go_wp2_with fail
     refine (p4q HV.o).mono ?_
     rintro en w1 ⟨rfl, rfl⟩
     go_wp2_with fail
     refine (s6q HU.o HV.o).mono ?_
     rintro en w1 ⟨rfl, n1, rfl⟩
     go_wp2_with fail
     refine (q0y (HU.o.drewN n1)).mono ?_
     rintro en w1 ⟨rfl, rfl⟩
     go_wp2_with fail
     have hl0 : Hi (0 < l.length) := hdd (by have := HS.o; rw [HLL.o]; omega)
     refine (v5z (HUl.o.drewN n1) hl0.o).mono ?_
     rintro en w2 ⟨rfl, hb2, hbel, hsz⟩
     simp only [World.heap_drewN] at hb2 hbel hsz
     have HSZ := hdd hsz
     replace hbel := f5q hbel
     have hcell : w2.cell? ⟨bb, boff, none⟩ = some (.int .u32 (nth m 0)) := by
      have h9 := (HVm.o.below hbel).cell 0 (by have := hm0.o; omega)
      simpa using h9
     clear hsz hcell0
     go_wp2_with fail
     have hlw : Hi (Ws l) := hdd HUl.o.ws
     have hll : Hi (l.length ≤ 1073741824) := hdd HUl.o.len
     refine (u6j hb2 hlw.o qm hll.o hpos hmw).mono ?_
     rintro en w3 ⟨rfl, L3, hb3, hw3, hl3, hon3, -, hv3⟩
     have hq3 : Hi (val L3 = x / y ∧ pv l 0 l.length % nth m 0 = x % y) := hdd (by
      rw [y8q rfl] at hv3 ⊢
      rw [y8q hl3] at hv3
      rw [hv3, HLL.o, j6q, ← hy1.o.2]
      exact ⟨rfl, rfl⟩)
     have hI := hb3.isW_all hw3 l.length (by omega) (by have := hll.o; omega)
     rw [hl3] at hI
     have HI := hdd hI
     have hrm : pv l 0 l.length % nth m 0 < 4294967296 := Nat.lt_trans (Nat.mod_lt _ hpos) hmw
     obtain ⟨rr, hrr⟩ := qx (pv l 0 l.length % nth m 0)
     rw [← hrr] at hrm hq3 ⊢
     have w5 : IntKind.u64.wrap (rr : Int) = (rr : Int) := IntWalk.u64_in _ (by omega)
     clear hI hl3 hw3 hv3 hrr
     go_wp2_with fail
     refine (s4q HI.o hq3.o.1).mono ?_
     rintro en w4 ⟨⟨q, rfl, hq, hqo⟩, rfl⟩
     go_wp2_with fail
     refine (t5q rr (by omega) _).mono ?_
     rintro en w5 ⟨⟨r, rfl, hr, hro⟩, hbel5⟩
     go_wp2_with fail
     go_ret2
     have hbW := q4q hbel hon3 qm
     rw [hq3.o.2] at hr
     refine ⟨⟨q, r, rfl, hq.below hbel5, hr, fun z hz => Or.inl ?_, fun z hz => Or.inl ?_⟩, q0q hbW hbel5⟩
     ·
      have h9 := hqo z hz
      simp [Value.ownBlock] at h9
      omega
     ·
      have := hro z hz; have := hbW.size; omega
    ·
     have hd : ((m.length : Int) == 1) = false := by simp; omega
     go_enter Tryz.func127, Tryz.ntmps127
     go_wp2_with fail
     refine (p4q HV.o).mono ?_
     rintro en w1 ⟨rfl, rfl⟩
     go_wp2_with fail
     refine (s6q HU.o HV.o).mono ?_
     rintro en w1 ⟨rfl, n1, rfl⟩
     go_wp2_with fail
     refine (q0y (HU.o.drewN n1)).mono ?_
     rintro en w1 ⟨rfl, rfl⟩
     go_wp2_with fail
     have hdl := hdd (u5w (w := w.drewN n1) HLL.o HM.o (HUl.o.drewN n1) (HVm.o.drewN n1) (by have := hm0.o; omega) (by rw [HM.o, HLL.o]; exact z6q HLE.o) (by rw [HLL.o]; exact HL.o))
     refine hdl.o.mono ?_
     rintro en w2 ⟨⟨q, r, rfl, hq, hr, hqo, hro⟩, hbel⟩
     go_wp2_with fail
     go_ret2
     exact ⟨⟨q, r, rfl, hq, hr, fun b hb => Or.inl (hqo b hb), fun b hb => Or.inl (hro b hb)⟩, f5q hbel⟩
end Go.Proofs.YtkkbmlkpgknhgaaGreat
namespace Go.Proofs.YtkkbmlkpgknhgaaGreat
variable {A Bn N P R Y a2 b bl br f g h k le mo n off p q r rest s : Nat} {A2 A3 B2 B3 X0 Y0 a e x y : Int} {L M M0 l lb m : List Nat} {u v : Value} {w : World}
structure m2q (a b X0 Y0 e x y A2 B2 A3 B3 : Int) : Prop where
 he : e = 1 ∨ e = -1
 hx : x = e * (A2 * X0 - B2 * Y0)
 hy : y = e * (B3 * Y0 - A3 * X0)
 det : A2 * B3 - A3 * B2 = e
 xy : y ≤ x
 y0 : 0 ≤ y
 a2 : 0 ≤ A2
 b2 : 0 ≤ B2
 a3 : 0 ≤ A3
 b3 : 1 ≤ B3
 le3 : A3 ≤ B3
 les : A2 + A3 ≤ B2 + B3
 own : 1 ≤ B2 → e * (A2 * a - B2 * b) ≤ b
 mono : B2 ≤ B3
 le2 : 1 ≤ B2 → A2 ≤ B2

theorem y1j {b D a' b' : Int} (h : m2q a b X0 Y0 e x y A2 B2 A3 B3) (ha : a = X0 * D + a') (hb : b = Y0 * D + b') (ha0 : 0 ≤ a') (hb0 : 0 ≤ b') (haD : a' < D) (hbD : b' < D)
  (c1 : B3 ≤ y) (c2 : B2 + B3 ≤ x - y) : 0 ≤ e * (B3 * b - A3 * a) ∧ e * (B3 * b - A3 * a) < e * (A2 * a - B2 * b) := by
 obtain ⟨he, hx, hy, det, xy, y0, a2, b2, a3, b3, le3, les, own, mono, le2⟩ := h
 have e3 : e * (B3 * b - A3 * a) = y * D + e * (B3 * b' - A3 * a') := by rw [ha, hb, hy]; grind
 have e2 : e * (A2 * a - B2 * b) = x * D + e * (A2 * a' - B2 * b') := by rw [ha, hb, hx]; grind
 have hD : 0 < D := by omega
 have p1 : 0 ≤ B3 * b' := Int.mul_nonneg (by omega) hb0
 have p2 : 0 ≤ A3 * a' := Int.mul_nonneg a3 ha0
 have p3 : B3 * b' ≤ B3 * D := Int.mul_le_mul_of_nonneg_left (by omega) (by omega)
 have p4 : A3 * a' ≤ A3 * D := Int.mul_le_mul_of_nonneg_left (by omega) a3
 have p5 : A3 * D ≤ B3 * D := Int.mul_le_mul_of_nonneg_right le3 (by omega)
 have p6 : B3 * D ≤ y * D := Int.mul_le_mul_of_nonneg_right c1 (by omega)
 have p7 : (B2 + B3) * D ≤ (x - y) * D := Int.mul_le_mul_of_nonneg_right c2 (by omega)
 have p8 : (B2 + B3) * b' ≤ (B2 + B3) * (D - 1) := Int.mul_le_mul_of_nonneg_left (by omega) (by omega)
 have p9 : (A2 + A3) * a' ≤ (A2 + A3) * (D - 1) := Int.mul_le_mul_of_nonneg_left (by omega) (by omega)
 have p10 : (A2 + A3) * (D - 1) ≤ (B2 + B3) * (D - 1) := Int.mul_le_mul_of_nonneg_right les (by omega)
 have p11 : 0 ≤ (A2 + A3) * a' := Int.mul_nonneg (by omega) ha0
 have p12 : 0 ≤ (B2 + B3) * b' := Int.mul_nonneg (by omega) hb0
 have p13 : (B2 + B3) * (D - 1) = (B2 + B3) * D - (B2 + B3) := by grind
 have p14 : (x - y) * D = x * D - y * D := by grind
 have p15 : (A2 + A3) * a' = A2 * a' + A3 * a' := by grind
 have p16 : (B2 + B3) * b' = B2 * b' + B3 * b' := by grind
 rw [e2, e3]
 rcases he with rfl | rfl
 ·
  refine ⟨by omega, by omega⟩
 ·
  refine ⟨by omega, by omega⟩

theorem u7w {b q r : Int} (h : m2q a b X0 Y0 e x y A2 B2 A3 B3) (ha : 0 ≤ a) (hq : x = q * y + r) (hr0 : 0 ≤ r) (hr : r < y) (hq1 : 1 ≤ q)
  (hgood : e * (B3 * b - A3 * a) < e * (A2 * a - B2 * b)) : m2q a b X0 Y0 (-e) y r A3 B3 (A2 + q * A3) (B2 + q * B3) := by
 obtain ⟨he, hx, hy, det, xy, y0, a2, b2, a3, b3, le3, les, own, mono, le2⟩ := h
 have q3 : A3 ≤ q * A3 := by
  have := Int.mul_le_mul_of_nonneg_right hq1 a3; omega
 have q4 : B3 ≤ q * B3 := by
  have := Int.mul_le_mul_of_nonneg_right hq1 (show 0 ≤ B3 by omega); omega
 have q5 : (q - 1) * A3 ≤ (q - 1) * B3 := Int.mul_le_mul_of_nonneg_left le3 (by omega)
 have q6 : (q - 1) * A3 = q * A3 - A3 := by grind
 have q7 : (q - 1) * B3 = q * B3 - B3 := by grind
 refine ⟨by omega, by rw [hy]; grind, ?_, ?_, by omega, hr0, a3, by omega, by omega, by omega, by omega, by omega, ?_, by omega, fun _ => le3⟩
 ·
  have : r = x - q * y := by omega
  rw [this, hx, hy]; grind
 ·
  grind
 ·
  intro _
  have e1 : -e * (A3 * a - B3 * b) = e * (B3 * b - A3 * a) := by grind
  rw [e1]
  by_cases hB : 1 ≤ B2
  ·
   have := own hB; omega
  ·
   have hB0 : B2 = 0 := by omega
   subst hB0
   have hd : A2 * B3 = e := by grind
   have he1 : e = 1 := by
    rcases he with h | h
    ·
     exact h
    ·
     have : 0 ≤ A2 * B3 := Int.mul_nonneg a2 (by omega)
     omega
   subst he1
   have hB3 : B3 = 1 := by
    have hA2 : 1 ≤ A2 := by
     rcases Int.lt_or_le A2 1 with h | h
     ·
      have : A2 = 0 := by omega
      subst this; omega
     ·
      exact h
    have := Int.mul_le_mul_of_nonneg_right hA2 (show 0 ≤ B3 by omega)
    omega
   subst hB3
   have : 0 ≤ A3 * a := Int.mul_nonneg a3 ha
   omega

theorem y6v {b : Int} (h : m2q a b X0 Y0 e x y A2 B2 A3 B3) : B3 * x + B2 * y = X0 := by
 obtain ⟨he, hx, hy, det, xy, y0, a2, b2, a3, b3, le3, les, own, mono, le2⟩ := h
 rw [hx, hy]
 have : e * e = 1 := by rcases he with rfl | rfl <;> rfl
 grind

theorem u7x {b : Int} (h : m2q a b X0 Y0 e x y A2 B2 A3 B3) :
  a = B3 * (e * (A2 * a - B2 * b)) + B2 * (e * (B3 * b - A3 * a)) ∧ b = A3 * (e * (A2 * a - B2 * b)) + A2 * (e * (B3 * b - A3 * a)) := by
 obtain ⟨he, hx, hy, det, xy, y0, a2, b2, a3, b3, le3, les, own, mono, le2⟩ := h
 have : e * e = 1 := by rcases he with rfl | rfl <;> rfl
 refine ⟨by grind, by grind⟩

theorem z5v {b : Int} (h : m2q a b X0 Y0 e x y A2 B2 A3 B3) (hX : X0 < 18446744073709551616) (c1 : B3 ≤ y) : B3 < 4294967296 ∧ A3 < 4294967296 := by
 have hs := y6v h
 have h1 : B3 * B3 ≤ B3 * x := Int.mul_le_mul_of_nonneg_left (by have := h.xy; omega) (by have := h.b3; omega)
 have h2 : 0 ≤ B2 * y := Int.mul_nonneg h.b2 h.y0
 have h3 : B3 < 4294967296 := by
  rcases Int.lt_or_le B3 4294967296 with h4 | h4
  ·
   exact h4
  ·
   have h5 := Int.mul_le_mul h4 h4 (by omega) (by omega)
   omega
 exact ⟨h3, by have := h.le3; omega⟩
theorem z5y {b : Int} (h : m2q a b X0 Y0 e x y A2 B2 A3 B3) (hx : 1 ≤ x) : B3 ≤ X0 := by
 have hs := y6v h
 have h1 : B3 * 1 ≤ B3 * x := Int.mul_le_mul_of_nonneg_left hx (by have := h.b3; omega)
 have h2 : 0 ≤ B2 * y := Int.mul_nonneg h.b2 h.y0
 omega

theorem y2h {a : Nat} (hr : (r : Int) = e * (A2 * a - B2 * b)) (hs : (s : Int) = e * (B3 * b - A3 * a)) (ha : (a : Int) = B3 * r + B2 * s) (hb : (b : Int) = A3 * r + A2 * s) : Nat.gcd r s = Nat.gcd a b := by
 apply Nat.dvd_antisymm
 ·
  apply Nat.dvd_gcd
  ·
   have h1 : ((Nat.gcd r s : Nat) : Int) ∣ (a : Int) := by
    rw [ha]; exact Int.dvd_add (Int.dvd_mul_of_dvd_right (Int.natCast_dvd_natCast.2 (Nat.gcd_dvd_left r s))) (Int.dvd_mul_of_dvd_right (Int.natCast_dvd_natCast.2 (Nat.gcd_dvd_right r s)))
   exact Int.natCast_dvd_natCast.1 h1
  ·
   have h1 : ((Nat.gcd r s : Nat) : Int) ∣ (b : Int) := by
    rw [hb]; exact Int.dvd_add (Int.dvd_mul_of_dvd_right (Int.natCast_dvd_natCast.2 (Nat.gcd_dvd_left r s))) (Int.dvd_mul_of_dvd_right (Int.natCast_dvd_natCast.2 (Nat.gcd_dvd_right r s)))
   exact Int.natCast_dvd_natCast.1 h1
 ·
  have ga : ((Nat.gcd a b : Nat) : Int) ∣ (a : Int) := Int.natCast_dvd_natCast.2 (Nat.gcd_dvd_left a b)
  have gb : ((Nat.gcd a b : Nat) : Int) ∣ (b : Int) := Int.natCast_dvd_natCast.2 (Nat.gcd_dvd_right a b)
  apply Nat.dvd_gcd
  ·
   have h1 : ((Nat.gcd a b : Nat) : Int) ∣ (r : Int) := by
    rw [hr]; exact Int.dvd_mul_of_dvd_right (Int.dvd_sub (Int.dvd_mul_of_dvd_right ga) (Int.dvd_mul_of_dvd_right gb))
   exact Int.natCast_dvd_natCast.1 h1
  ·
   have h1 : ((Nat.gcd a b : Nat) : Int) ∣ (s : Int) := by
    rw [hs]; exact Int.dvd_mul_of_dvd_right (Int.dvd_sub (Int.dvd_mul_of_dvd_right gb) (Int.dvd_mul_of_dvd_right ga))
   exact Int.natCast_dvd_natCast.1 h1
end Go.Proofs.YtkkbmlkpgknhgaaGreat
namespace Go.Proofs.YtkkbmlkpgknhgaaGreat
open Go.RowKit
variable {A Bn N P R Y a2 b bl br f g h k le mo n off p q r rest s : Nat} {A2 A3 B2 B3 X0 Y0 a e x y : Int} {L M M0 l lb m : List Nat} {u v : Value} {w : World}
theorem u8z (hk : k < M.length) (hb : br ≤ 1) (hv : pv M 0 k + q * pv m 0 k + 4294967296 ^ k * mo = p * pv l 0 k + 4294967296 ^ k * (le + br)) :
  pv (M.set k (v7q (v7q (j0q (z4q p (nth l k) 0 mo)) (j0q (z4q q (nth m k) 0 le))) br % 4294967296)) 0 (k + 1) + q * pv m 0 (k + 1) + 4294967296 ^ (k + 1) * (z4q p (nth l k) 0 mo / 4294967296) =
   p * pv l 0 (k + 1) + 4294967296 ^ (k + 1) * (z4q q (nth m k) 0 le / 4294967296 + v7q (v7q (j0q (z4q p (nth l k) 0 mo)) (j0q (z4q q (nth m k) 0 le))) br / 9223372036854775808) := by
 have h1 : j0q (z4q p (nth l k) 0 mo) < 4294967296 := Nat.mod_lt _ (by omega)
 have h2 : j0q (z4q q (nth m k) 0 le) < 4294967296 := Nat.mod_lt _ (by omega)
 have h := (i2q _ _ br h1 h2 hb).1
 have g1 := Nat.mod_add_div (z4q p (nth l k) 0 mo) 4294967296
 have g2 := Nat.mod_add_div (z4q q (nth m k) 0 le) 4294967296
 have e := d0q M 0 k (v7q (v7q (j0q (z4q p (nth l k) 0 mo)) (j0q (z4q q (nth m k) 0 le))) br % 4294967296) (by omega)
 rw [Nat.zero_add] at e
 rw [e, v2q, v2q, Nat.zero_add, Nat.pow_succ]
 generalize v7q (v7q (j0q (z4q p (nth l k) 0 mo)) (j0q (z4q q (nth m k) 0 le))) br / 9223372036854775808 = t at *
 generalize v7q (v7q (j0q (z4q p (nth l k) 0 mo)) (j0q (z4q q (nth m k) 0 le))) br % 4294967296 = d at *
 unfold j0q at h
 generalize z4q p (nth l k) 0 mo / 4294967296 = u1 at *
 generalize z4q p (nth l k) 0 mo % 4294967296 = d1 at *
 generalize z4q q (nth m k) 0 le / 4294967296 = u2 at *
 generalize z4q q (nth m k) 0 le % 4294967296 = d2 at *
 unfold z4q at g1 g2
 generalize 4294967296 ^ k = P at *
 have e1 : P * (d + d2 + br) = P * (d1 + 4294967296 * t) := by rw [h]
 have e2 : P * (d1 + 4294967296 * u1) = P * (mo + (p * nth l k + 0)) := by rw [g1]
 have e3 : P * (d2 + 4294967296 * u2) = P * (le + (q * nth m k + 0)) := by rw [g2]
 grind

theorem x4k (hM : Ws M) (hlen : M.length = N) (hl : l.length ≤ N) (hm : m.length ≤ N) (hv : pv M 0 N + q * pv m 0 N + 4294967296 ^ N * mo = p * pv l 0 N + 4294967296 ^ N * (le + br))
  (hR : p * val l = q * val m + R) (hRN : R < 4294967296 ^ N) : val M = R := by
 rw [y8q hlen, w4q hl, w4q hm, hR] at hv
 have h1 := m0q hM
 rw [hlen] at h1
 generalize 4294967296 ^ N = P at *
 have h2 : val M + P * mo = R + P * (le + br) := by omega
 have h3 := congrArg (· % P) h2
 simp only [Nat.add_mul_mod_self_left] at h3
 rwa [Nat.mod_eq_of_lt h1, Nat.mod_eq_of_lt hRN] at h3

theorem q1j (hu : IsW w u l) (hv : IsW w v m) (hp : p < 4294967296) (hq : q < 4294967296) (hN : N = max l.length m.length) (hR : p * val l = q * val m + R) (hRN : R < 4294967296 ^ N) :
  Calls Tryz.prog 148 #[u, .int .u64 p, v, .int .u64 q] w fun e w' => (∃ r, e = .returned r ∧ IsW w' r (q2q R) ∧ (∀ b, r.ownBlock = some b → w.heap.size ≤ b)) ∧ Below w.heap.size w w' := by
 have HU := hdd hu
 have HV := hdd hv
 have hNl : N ≤ 1073741824 ∧ l.length ≤ N ∧ m.length ≤ N := ⟨by have := hu.len; have := hv.len; omega, by omega, by omega⟩
 have HNM := hdd hN
 have HR := hdd hR
 have HRN := hdd hRN
 obtain ⟨a, cap, rfl, i1, i2, i3, i4, i5⟩ := hu
 obtain ⟨b, bcap, rfl, k1, k2, k3, k4, k5⟩ := hv
 have hmx : max (l.length : Int) (m.length : Int) = (N : Int) := by omega
 obtain ⟨n1, n2, n3⟩ := hNl
 clear i3 i4 i5 k3 k4 k5 hN hR hRN
 go_enter Tryz.func148, Tryz.ntmps148
 go_wp2_with (at_make; refine w8q rfl _ _ _ _ rfl uw t8q N _ _ rfl rfl (by omega) (by omega) (by omega) ?_; intro w1 hb1 hbel hs1; refine y0q ?_)
 all_goals
  refine z2q ?_
  go_wp2_with fail
  go_loopw [10, 11, 12, 23] (fun mo le br i wr => ∃ (k mon len brn : Nat) (M : List Nat), k ≤ N ∧ i = .int .i64 k ∧ mo = .int .u64 mon ∧ le = .int .u64 len ∧ br = .int .u64 brn ∧ mon < 4294967296 ∧ len < 4294967296 ∧ brn ≤ 1 ∧ Blk wr w.heap.size 125 M ∧ Hi (Ws M) ∧ Hi (M.length = N) ∧ Below w.heap.size w wr ∧
    Hi (pv M 0 k + q * pv m 0 k + 4294967296 ^ k * mon = p * pv l 0 k + 4294967296 ^ k * (len + brn))) (fun _ _ _ i _ => N - (intOf i).toNat)
  case atStart => exact ⟨0, 0, 0, 0, _, Nat.zero_le _, rfl, rfl, rfl, rfl, by omega, by omega, by omega, hb1, hdd (u4q _), hdd (by simp), hbel, hdd (by simp [x2q])⟩
  case round =>
   obtain ⟨k, mo, le, br, M, hk, rfl, rfl, rfl, rfl, hmo, hle, hbr, hM, hMw, hMl, hon, hval⟩ := hrel
   by_cases hkn : k < N
   ·
    have hx := y1q HU.o.ws k
    have hy := y1q HV.o.ws k
    have hcellM := hM.cell k (by have := hMl.o; omega)
    have hfree := hM.free k
    have w1 := d9q hp hx
    have w2 := o0q hp hx (show 0 < 4294967296 by omega) hmo
    have w3 := r0q hp hx (show 0 < 4294967296 by omega) hmo
    have w4 := l0q _ w3
    have w5 := d9q hq hy
    have w6 := o0q hq hy (show 0 < 4294967296 by omega) hle
    have w7 := r0q hq hy (show 0 < 4294967296 by omega) hle
    have w8 := l0q _ w7
    have hl1 : j0q (z4q p (nth l k) 0 mo) < 4294967296 := Nat.mod_lt _ (by omega)
    have hl2 : j0q (z4q q (nth m k) 0 le) < 4294967296 := Nat.mod_lt _ (by omega)
    have w9 := i3q (j0q (z4q p (nth l k) 0 mo)) (j0q (z4q q (nth m k) 0 le)) (by omega) (by omega)
    have w10 := i3q (v7q (j0q (z4q p (nth l k) 0 mo)) (j0q (z4q q (nth m k) 0 le))) br (q4k _ _) (by omega)
    have w11 := q4k (v7q (j0q (z4q p (nth l k) 0 mo)) (j0q (z4q q (nth m k) 0 le))) br
    go_wp2_with fail
    refine (q5y (HU.o.below hon) k).mono ?_
    rintro en w2 ⟨rfl, rfl⟩
    go_wp2_with fail
    refine (q5y (HV.o.below hon) k).mono ?_
    rintro en w2 ⟨rfl, rfl⟩
    go_wp2_with fail
    go_roundw
    case rel =>
     have hw := i2q _ _ br hl1 hl2 hbr
     exact ⟨k + 1, z4q p (nth l k) 0 mo / 4294967296, z4q q (nth m k) 0 le / 4294967296, v7q (v7q (j0q (z4q p (nth l k) 0 mo)) (j0q (z4q q (nth m k) 0 le))) br / 9223372036854775808,
      M.set k (v7q (v7q (j0q (z4q p (nth l k) 0 mo)) (j0q (z4q q (nth m k) 0 le))) br % 4294967296), by omega, by go_num, by go_num, by go_num, by go_num, by omega, by omega, hw.2,
      hM.setCell k _ _ (by unfold U; go_num), hdd (u0q hMw.o _ (by omega)), hdd (by rw [List.length_set]; exact hMl.o), hon.setCell qm _, hdd (u8z (by have := hMl.o; omega) hbr hval.o)⟩
    case measure => simp [intOf]; omega
   ·
    obtain rfl : k = N := by omega
    have hMv : Hi (val M = R) := hdd (x4k hMw.o hMl.o n2 n3 hval.o HR.o HRN.o)
    have hI := hM.isW_all hMw.o k (by have := hMl.o; omega) (by have := hMl.o; omega)
    rw [hMl.o] at hI
    have HI := hdd hI
    clear hI
    go_wp2_with fail
    refine (s4q HI.o hMv.o).mono ?_
    rintro en w4 ⟨⟨r, rfl, hr, hown⟩, rfl⟩
    go_wp2_with fail
    go_ret
    refine ⟨⟨r, rfl, hr, fun x hx => ?_⟩, hon⟩
    have := hown x hx
    simp [Value.ownBlock] at this
    omega
end Go.Proofs.YtkkbmlkpgknhgaaGreat
