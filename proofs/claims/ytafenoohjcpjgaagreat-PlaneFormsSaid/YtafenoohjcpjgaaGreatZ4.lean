/- Several texts in one: Wk. -/
import Derived.Test.YtafenoohjcpjgaaGreatZ3
/- Long division's inner steps: a multiple taken away in place; the guess. -/
namespace Go.Proofs.YtafenoohjcpjgaaGreat
open Go.RowKit

def lowW (x : Nat) : Nat := x % 4294967296
theorem lowW_and (x : Nat) (hx : x < 18446744073709551616) : bits .and .u64 (x : Int) 4294967295 = (lowW x : Int) := by
  have h := u64_and_nat x 4294967295 hx (by omega)
  have e : x &&& 4294967295 = x % 4294967296 := Nat.and_two_pow_sub_one_eq_mod x 32
  rw [e] at h
  exact h

theorem take_step {L M lb : List Nat} {off k c br f : Nat} (hk : off + k < M.length) (hM : nth M (off + k) < 4294967296) (hb : br ≤ 1) (hsame : nth M (off + k) = nth L (off + k))
    (hv : pv M off k + pv lb 0 k * f = pv L off k + 4294967296 ^ k * (br + c)) :
    pv (M.set (off + k) (subU (subU (nth M (off + k)) (lowW (mulS (nth lb k) f 0 c))) br % 4294967296)) off (k + 1) + pv lb 0 (k + 1) * f =
      pv L off (k + 1) + 4294967296 ^ (k + 1) * (subU (subU (nth M (off + k)) (lowW (mulS (nth lb k) f 0 c))) br / 9223372036854775808 + mulS (nth lb k) f 0 c / 4294967296) := by
  have hlow : lowW (mulS (nth lb k) f 0 c) < 4294967296 := Nat.mod_lt _ (by omega)
  have h := (subU_word (nth M (off + k)) (lowW (mulS (nth lb k) f 0 c)) br hM hlow hb).1
  have h2 := Nat.mod_add_div (mulS (nth lb k) f 0 c) 4294967296
  rw [pv_set _ _ _ _ hk, pv_succ, pv_succ, Nat.zero_add, Nat.pow_succ, ← hsame]
  generalize subU (subU (nth M (off + k)) (lowW (mulS (nth lb k) f 0 c))) br / 9223372036854775808 = q at *
  generalize subU (subU (nth M (off + k)) (lowW (mulS (nth lb k) f 0 c))) br % 4294967296 = d at *
  unfold lowW at h
  generalize mulS (nth lb k) f 0 c / 4294967296 = t at *
  generalize mulS (nth lb k) f 0 c % 4294967296 = u at *
  unfold mulS at h2
  generalize 4294967296 ^ k = p at *
  have e1 : p * (d + u + br) = p * (nth M (off + k) + 4294967296 * q) := by rw [h]
  have e2 : p * (u + 4294967296 * t) = p * (c + (nth lb k * f + 0)) := by rw [h2]
  grind

set_option maxHeartbeats 400000 in
theorem takeTimes_w {w : World} {B off n cap f : Nat} {e : TypeId} {vb : Value} {L lb : List Nat} (hL : Blk w B e L) (hw : Ws L) (hn : off + n ≤ L.length) (hlen : L.length ≤ 2147483648)
    (hb : IsW w vb lb) (hne : lb ≠ [] → vb.ownBlock ≠ some B) (hf : f < 4294967296) (hlb : lb.length < n) :
    Calls Tryz.prog 167 #[.slice (some ⟨B, off, none⟩) n cap, vb, .int .u64 f] w fun en w' =>
      ∃ (L' : List Nat) (br : Nat), en = .returned (.bool (br == 1)) ∧ br ≤ 1 ∧ Blk w' B e L' ∧ Ws L' ∧ L'.length = L.length ∧ Only B w w' ∧ (∀ j, (j < off ∨ off + n ≤ j) → nth L' j = nth L j) ∧ pv L' off n + val lb * f = pv L off n + 4294967296 ^ n * br := by
  have HW := Lib.hid hw
  have HB := Lib.hid hb
  clear hw
  go_enter Tryz.func167, Tryz.ntmps167
  go_wp2_with fail
  go_loopw [7, 8, 13] (fun c b i wr => ∃ (k cr br : Nat) (M : List Nat), k ≤ n ∧ i = .int .i64 k ∧ c = .int .u64 cr ∧ b = .int .u64 br ∧ br ≤ 1 ∧ cr < 4294967296 ∧ Hid (lb.length < k → cr = 0) ∧ Blk wr B e M ∧ Hid (Ws M) ∧ Hid (M.length = L.length) ∧ Only B w wr ∧
      Hid (∀ j, (j < off ∨ off + k ≤ j) → nth M j = nth L j) ∧ Hid (pv M off k + pv lb 0 k * f = pv L off k + 4294967296 ^ k * (br + cr))) (fun _ _ i _ => n - (intOf i).toNat)
  case atStart => exact ⟨0, 0, 0, L, Nat.zero_le _, rfl, rfl, rfl, by omega, by omega, Lib.hid (fun _ => rfl), hL, HW, Lib.hid rfl, Only.refl _ _, Lib.hid (fun _ _ => rfl), Lib.hid (by simp [pv_zero])⟩
  case round =>
    obtain ⟨k, cr, br, M, hk, rfl, rfl, rfl, hbr, hcr, hz, hM, hMw, hMl, hon, hsame, hval⟩ := hrel
    by_cases hkn : k < n
    · have hx := ws_nth hMw.out (off + k)
      have hy := ws_nth HB.out.ws k
      have hcell := hM.cell (off + k) (by have := hMl.out; omega)
      have hfree := hM.free (off + k)
      have w1 := mulS_wrap1 hy hf
      have w2 := mulS_wrap3 hy hf (show 0 < 4294967296 by omega) hcr
      have w3 := mulS_lt hy hf (show 0 < 4294967296 by omega) hcr
      have w4 := lowW_and _ w3
      have hlow : lowW (mulS (nth lb k) f 0 cr) < 4294967296 := Nat.mod_lt _ (by omega)
      have w5 := subU_wrap (nth M (off + k)) (lowW (mulS (nth lb k) f 0 cr)) (by omega) (by omega)
      have w6 := subU_wrap (subU (nth M (off + k)) (lowW (mulS (nth lb k) f 0 cr))) br (subU_lt _ _) (by omega)
      have w7 := subU_lt (subU (nth M (off + k)) (lowW (mulS (nth lb k) f 0 cr))) br
      go_wp2_with fail
      refine (at_w (HB.out.only0 hon hne) k).mono ?_
      rintro en w2 ⟨rfl, rfl⟩
      go_wp2_with fail
      go_roundw
      case rel =>
        have hw := subU_word (nth M (off + k)) (lowW (mulS (nth lb k) f 0 cr)) br hx hlow hbr
        exact ⟨k + 1, mulS (nth lb k) f 0 cr / 4294967296, subU (subU (nth M (off + k)) (lowW (mulS (nth lb k) f 0 cr))) br / 9223372036854775808, M.set (off + k) (subU (subU (nth M (off + k)) (lowW (mulS (nth lb k) f 0 cr))) br % 4294967296),
          by omega, by go_num, by go_num, by go_num, hw.2, by omega, Lib.hid (fun h => by rw [nth_out (by omega)]; unfold mulS; have := hcr; omega), hM.setCell (off + k) _ _ (by unfold U; go_num), Lib.hid (ws_set hMw.out _ (by omega)),
          Lib.hid (by rw [List.length_set]; exact hMl.out), hon.setCell _ _, Lib.hid (fun j hj => by rw [nth_set_ne _ _ _ _ (by omega)]; exact hsame.out j (by omega)),
          Lib.hid (take_step (by have := hMl.out; omega) hx hbr (hsame.out _ (by omega)) hval.out)⟩
      case measure => simp [intOf]; omega
    · obtain rfl : k = n := by omega
      have hc0 := hz.out hlb
      subst hc0
      go_wp2_with fail
      go_ret
      refine ⟨M, br, ret_bool (by rw [Bool.eq_iff_iff]; simp; omega), hbr, hM, hMw.out, hMl.out, hon, fun j hj => hsame.out j hj, ?_⟩
      have h := hval.out
      rw [pv_all (by omega), Nat.add_zero] at h
      exact h

/-! ### The guess: A is the part, b the divisor; h the part's first two words, a2 the next; f, s the divisor's first two; Bn what stands behind -/
theorem guess_down {A b g h f s a2 rest Bn : Nat} (hg : g * f + rest = h) (hgt : rest * 4294967296 + a2 < g * s) (hA : A < (h * 4294967296 + a2 + 1) * Bn) (hb : (f * 4294967296 + s) * Bn ≤ b) (hb0 : 0 < b) : A / b < g := by
  have h1 : (h * 4294967296 + a2 + 1) ≤ g * (f * 4294967296 + s) := by
    subst hg
    have : g * (f * 4294967296 + s) = g * f * 4294967296 + g * s := by grind
    rw [this, Nat.add_mul]; omega
  have h2 := Nat.mul_le_mul_right Bn h1
  have h3 := Nat.mul_le_mul_left g hb
  refine (Nat.div_lt_iff_lt_mul hb0).2 ?_
  have : g * (f * 4294967296 + s) * Bn = g * ((f * 4294967296 + s) * Bn) := Nat.mul_assoc _ _ _
  omega

theorem guess_fit {A b g h f s a2 rest Bn bl : Nat} (hg : g * f + rest = h) (hle : g * s ≤ rest * 4294967296 + a2) (hgB : g < 4294967296) (hf : 2147483648 ≤ f) (hA : (h * 4294967296 + a2) * Bn ≤ A) (hb : b = (f * 4294967296 + s) * Bn + bl) (hbl : bl < Bn) : g ≤ A / b + 1 := by
  have hb0 : 0 < b := by
    have h0 : 0 < (f * 4294967296 + s) * Bn := Nat.mul_pos (by omega) (by omega)
    omega
  rcases Nat.eq_zero_or_pos g with h0 | h0
  · rw [h0]; exact Nat.zero_le _
  obtain ⟨k, rfl⟩ : ∃ k, g = k + 1 := ⟨g - 1, by omega⟩
  have h1 : (k + 1) * (f * 4294967296 + s) ≤ h * 4294967296 + a2 := by
    subst hg
    have : (k + 1) * (f * 4294967296 + s) = (k + 1) * f * 4294967296 + (k + 1) * s := by grind
    rw [this, Nat.add_mul]; omega
  have h2 := Nat.mul_le_mul_right Bn h1
  have h3 : (k + 1) * bl ≤ 4294967296 * Bn := Nat.mul_le_mul (by omega) (by omega)
  have h4 : 4294967296 * Bn ≤ (f * 4294967296 + s) * Bn := Nat.mul_le_mul_right _ (by omega)
  have h5 : k * b ≤ A := by
    have e : (k + 1) * b = (k + 1) * (f * 4294967296 + s) * Bn + (k + 1) * bl := by rw [hb]; grind
    have e2 : (k + 1) * b = k * b + b := by grind
    omega
  have := (Nat.le_div_iff_mul_le hb0).2 h5
  omega

theorem guess_start {A b h f a2 Bn : Nat} (hA : A < (h * 4294967296 + a2 + 1) * Bn) (ha2 : a2 < 4294967296) (hf : 0 < f) (hBn : 0 < Bn) (hb : f * 4294967296 * Bn ≤ b) : A / b ≤ h / f := by
  have hb0 : 0 < b := Nat.lt_of_lt_of_le (Nat.mul_pos (Nat.mul_pos hf (by omega)) hBn) hb
  have h1 : h + 1 ≤ (h / f + 1) * f := by
    have := Nat.mod_add_div h f
    have := Nat.mod_lt h hf
    rw [Nat.add_mul, Nat.mul_comm (h / f)]; omega
  have h2 : (h * 4294967296 + a2 + 1) * Bn ≤ (h + 1) * 4294967296 * Bn := Nat.mul_le_mul_right _ (by omega)
  have h3 : (h + 1) * 4294967296 * Bn ≤ (h / f + 1) * f * 4294967296 * Bn := Nat.mul_le_mul_right _ (Nat.mul_le_mul_right _ h1)
  have h4 : (h / f + 1) * (f * 4294967296 * Bn) ≤ (h / f + 1) * b := Nat.mul_le_mul_left _ hb
  have e : (h / f + 1) * f * 4294967296 * Bn = (h / f + 1) * (f * 4294967296 * Bn) := by grind
  refine Nat.le_of_lt_succ ((Nat.div_lt_iff_lt_mul hb0).2 ?_)
  show A < (h / f + 1) * b
  omega

/-- The first words of a number. -/
theorem top3 {l : List Nat} {n : Nat} (hn : 2 ≤ n) (hl : l.length = n + 1) : val l = (twoW (nth l n) (nth l (n - 1)) * 4294967296 + nth l (n - 2)) * 4294967296 ^ (n - 2) + pv l 0 (n - 2) := by
  have e : val l = pv l 0 ((n - 2) + 1 + 1 + 1) := by rw [pv_eq_val (by omega)]
  obtain ⟨k, rfl⟩ : ∃ k, n = k + 2 := ⟨n - 2, by omega⟩
  simp only [Nat.add_sub_cancel] at *
  rw [e, pv_succ, pv_succ, pv_succ]
  simp only [Nat.zero_add, Nat.pow_succ]
  unfold twoW
  rw [show k + 2 - 1 = k + 1 from rfl]
  generalize 4294967296 ^ k = p
  grind
theorem top2 {l : List Nat} {n : Nat} (hn : 2 ≤ n) (hl : l.length = n) : val l = (nth l (n - 1) * 4294967296 + nth l (n - 2)) * 4294967296 ^ (n - 2) + pv l 0 (n - 2) := by
  have e : val l = pv l 0 ((n - 2) + 1 + 1) := by rw [pv_eq_val (by omega)]
  obtain ⟨k, rfl⟩ : ∃ k, n = k + 2 := ⟨n - 2, by omega⟩
  simp only [Nat.add_sub_cancel] at *
  rw [e, pv_succ, pv_succ]
  simp only [Nat.zero_add, Nat.pow_succ]
  rw [show k + 2 - 1 = k + 1 from rfl]
  generalize 4294967296 ^ k = p
  grind
theorem guess_break {g f rest h : Nat} (hg : g * f + rest = h) (hr : 4294967296 ≤ rest) (hh : h ≤ f * 4294967296 + 4294967295) : g < 4294967296 := by
  rcases Nat.lt_or_ge g 4294967296 with h1 | h1
  · exact h1
  · have := Nat.mul_le_mul_right f h1
    omega

theorem first_le {A b an an1 a2 f s Bn r bl : Nat} (hA : A = (twoW an an1 * 4294967296 + a2) * Bn + r) (hb : b = (f * 4294967296 + s) * Bn + bl) (hbl : bl < Bn) (hs : s < 4294967296) (hAb : A < 4294967296 * b) : an ≤ f := by
  refine Nat.le_of_lt_succ (show an < f + 1 from Nat.lt_of_mul_lt_mul_right (a := 4294967296 * 4294967296 * Bn) ?_)
  have h1 : an * (4294967296 * 4294967296 * Bn) ≤ (twoW an an1 * 4294967296 + a2) * Bn := by
    have e : an * (4294967296 * 4294967296 * Bn) = (an * 4294967296 * 4294967296) * Bn := by grind
    rw [e]; refine Nat.mul_le_mul_right _ ?_; unfold twoW; omega
  have h2 : 4294967296 * b ≤ 4294967296 * ((f * 4294967296 + s + 1) * Bn) := by
    refine Nat.mul_le_mul_left _ ?_
    rw [hb, Nat.add_mul _ 1]; omega
  have h3 : 4294967296 * ((f * 4294967296 + s + 1) * Bn) ≤ (f + 1) * (4294967296 * 4294967296 * Bn) := by
    have e : (f + 1) * (4294967296 * 4294967296 * Bn) = 4294967296 * (((f + 1) * 4294967296) * Bn) := by grind
    rw [e]; exact Nat.mul_le_mul_left _ (Nat.mul_le_mul_right _ (by omega))
  omega

def remW (t b : Nat) : Nat := t % b

/-- What holds of a guess: between the quotient and the words' own. -/
structure GuessAt (A b h f g rest : Nat) : Prop where
  sum : g * f + rest = h
  le : A / b ≤ g

theorem GuessAt.next {A b h f g rest : Nat} (hg : GuessAt A b h f g rest) (hlt : A / b < g) : GuessAt A b h f (g - 1) (rest + f) := by
  obtain ⟨k, rfl⟩ : ∃ k, g = k + 1 := ⟨g - 1, by
    generalize A / b = q at hlt
    omega⟩
  refine ⟨?_, by rw [Nat.add_sub_cancel]; exact Nat.le_of_lt_succ hlt⟩
  have := hg.sum
  rw [Nat.add_sub_cancel]
  grind

theorem GuessAt.fits {A b h f g rest a2 s Bn r bl : Nat} (hg : GuessAt A b h f g rest) (hgB : g < 4294967296) (hle : g * s ≤ rest * 4294967296 + a2) (hf : 2147483648 ≤ f) (hA : A = (h * 4294967296 + a2) * Bn + r) (hb : b = (f * 4294967296 + s) * Bn + bl) (hbl : bl < Bn) :
    g < 4294967296 ∧ A / b ≤ g ∧ g ≤ A / b + 1 := ⟨hgB, hg.le, guess_fit hg.sum hle hgB hf (by omega) hb hbl⟩

theorem GuessAt.down {A b h f g rest a2 s Bn r bl : Nat} (hg : GuessAt A b h f g rest) (hgt : rest * 4294967296 + a2 < g * s) (hA : A = (h * 4294967296 + a2) * Bn + r) (hr : r < Bn) (hb : b = (f * 4294967296 + s) * Bn + bl) (hb0 : 0 < b) : A / b < g :=
  guess_down (Bn := Bn) hg.sum hgt (by rw [hA, Nat.add_mul _ 1, Nat.one_mul]; omega) (by rw [hb]; omega) hb0

theorem GuessAt.broke {A b h f g rest a2 s Bn r bl : Nat} (hg : GuessAt A b h f g rest) (hr : 4294967296 ≤ rest) (hh : h ≤ f * 4294967296 + 4294967295) (hs : s < 4294967296) (hf : 2147483648 ≤ f) (hA : A = (h * 4294967296 + a2) * Bn + r) (hb : b = (f * 4294967296 + s) * Bn + bl) (hbl : bl < Bn) :
    g < 4294967296 ∧ A / b ≤ g ∧ g ≤ A / b + 1 := by
  have hgB := guess_break hg.sum hr hh
  refine hg.fits hgB ?_ hf hA hb hbl
  have h1 : g * s ≤ 4294967296 * 4294967296 := Nat.mul_le_mul (by omega) (by omega)
  omega

set_option maxRecDepth 100000 in
set_option maxHeartbeats 1000000 in
theorem guess_w {w : World} {u v : Value} {l m : List Nat} {n : Nat} (hu : IsW w u l) (hv : IsW w v m) (hn : 2 ≤ n) (hl : l.length = n + 1) (hm : m.length = n) (htop : 2147483648 ≤ nth m (n - 1)) (hA : val l < 4294967296 * val m) :
    Calls Tryz.prog 166 #[u, v] w fun e w' => (∃ g : Nat, e = .returned (.int .u64 g) ∧ g < 4294967296 ∧ val l / val m ≤ g ∧ g ≤ val l / val m + 1) ∧ ∃ k, w' = w.drewN k := by
  have t3 := Lib.hid (top3 hn hl)
  have t2 := Lib.hid (top2 hn hm)
  have HA := Lib.hid hA
  have HL := Lib.hid hl
  have HM := Lib.hid hm
  have bn := ws_nth hu.ws n
  have bn1 := ws_nth hu.ws (n - 1)
  have bn2 := ws_nth hu.ws (n - 2)
  have bf := ws_nth hv.ws (n - 1)
  have bs := ws_nth hv.ws (n - 2)
  have hWu := Lib.hid hu.ws
  have hWv := Lib.hid hv.ws
  obtain ⟨a, cap, rfl, h1, h2, h3, h4, h5⟩ := id hu
  obtain ⟨b, bcap, rfl, k1, k2, k3, k4, k5⟩ := id hv
  obtain ⟨ab, aoff, rfl, -, -⟩ := h4 (by intro e; simp at e; subst e; simp at hl)
  obtain ⟨bb, boff, rfl, -, -⟩ := k4 (by intro e; simp at e; subst e; simp at hm; omega)
  have c1 := hu.cell n (by omega)
  have c2 := hu.cell (n - 1) (by omega)
  have c3 := hu.cell (n - 2) (by omega)
  have c4 := hv.cell (n - 1) (by omega)
  have c5 := hv.cell (n - 2) (by omega)
  rw [hl] at h1 h2 hu
  rw [hm] at k1 k2 hv
  rw [hl, hm]
  have w1 : IntKind.u64.wrap (nth l n : Int) = (nth l n : Int) := IntWalk.u64_in _ (by omega)
  have w2 : IntKind.u64.wrap (nth l (n - 1) : Int) = (nth l (n - 1) : Int) := IntWalk.u64_in _ (by omega)
  have w3 : IntKind.u64.wrap (nth m (n - 1) : Int) = (nth m (n - 1) : Int) := IntWalk.u64_in _ (by omega)
  have w4 : IntKind.u64.wrap (nth m (n - 2) : Int) = (nth m (n - 2) : Int) := IntWalk.u64_in _ (by omega)
  have w5 := u64_shl32 (nth l n) bn
  have w6 := u64_twoW bn bn1
  have hf0 : 0 < nth m (n - 1) := by omega
  have q1 : IntKind.u64.wrap ((twoW (nth l n) (nth l (n - 1)) : Int).tdiv (nth m (n - 1) : Int)) = (quoW (twoW (nth l n) (nth l (n - 1))) (nth m (n - 1)) : Int) := by
    have h := quoW_wrap (twoW (nth l n) (nth l (n - 1))) (nth m (n - 1)) (twoW_lt bn bn1)
    rw [Int.tdiv_eq_ediv_of_nonneg (by omega)]; exact h
  have q2 : (twoW (nth l n) (nth l (n - 1)) : Int).tmod (nth m (n - 1) : Int) = (remW (twoW (nth l n) (nth l (n - 1))) (nth m (n - 1)) : Int) := by
    rw [Int.tmod_eq_emod_of_nonneg (by omega)]; rfl
  have hfn : ¬ (nth m (n - 1) = 0) := by omega
  have hstart : Hid (GuessAt (val l) (val m) (twoW (nth l n) (nth l (n - 1))) (nth m (n - 1)) (quoW (twoW (nth l n) (nth l (n - 1))) (nth m (n - 1))) (remW (twoW (nth l n) (nth l (n - 1))) (nth m (n - 1)))) := Lib.hid
    ⟨by unfold quoW remW; rw [Nat.mul_comm]; exact Nat.div_add_mod _ _,
     by
      refine guess_start (a2 := nth l (n - 2)) (Bn := 4294967296 ^ (n - 2)) ?_ bn2 hf0 (Nat.pow_pos (by omega)) ?_
      · rw [t3.out, Nat.add_mul _ 1, Nat.one_mul]; have := pv_lt hWu.out 0 (n - 2); omega
      · rw [t2.out, Nat.add_mul]; omega⟩
  have hrem : remW (twoW (nth l n) (nth l (n - 1))) (nth m (n - 1)) < 4294967296 := by
    have := Nat.mod_lt (twoW (nth l n) (nth l (n - 1))) hf0; unfold remW; omega
  have hhf : Hid (twoW (nth l n) (nth l (n - 1)) ≤ nth m (n - 1) * 4294967296 + 4294967295) := Lib.hid (by
    have e3 := t3.out
    have e2 := t2.out
    have e1 := pv_lt hWv.out 0 (n - 2)
    generalize 4294967296 ^ (n - 2) = Bn at e3 e2 e1
    have h := first_le e3 e2 e1 bs hA
    unfold twoW; omega)
  have hquo : quoW (twoW (nth l n) (nth l (n - 1))) (nth m (n - 1)) < 18446744073709551616 := by
    have h9 := twoW_lt bn bn1
    have h8 := Nat.div_le_self (twoW (nth l n) (nth l (n - 1))) (nth m (n - 1))
    unfold quoW
    omega
  have q3 := quoW_wrap (twoW (nth l n) (nth l (n - 1))) (nth m (n - 1)) (twoW_lt bn bn1)
  have hb0 : Hid (0 < val m) := Lib.hid (by
    rw [t2.out]
    have h9 : 0 < (nth m (n - 1) * 4294967296 + nth m (n - 2)) * 4294967296 ^ (n - 2) := Nat.mul_pos (by omega) (Nat.pow_pos (by omega))
    omega)
  have hqB : Hid (val l / val m < 4294967296) := Lib.hid ((Nat.div_lt_iff_lt_mul hb0.out).2 hA)
  have hbl := Lib.hid (pv_lt hWv.out 0 (n - 2))
  have hrl := Lib.hid (pv_lt hWu.out 0 (n - 2))
  clear hu hv h3 h4 h5 k3 k4 k5 hA hl hm
  have HFN := Lib.hid hfn
  have HF0 := Lib.hid hf0
  have HTOP := Lib.hid htop
  clear htop
  go_enter Tryz.func166, Tryz.ntmps166
  go_wp2_with fail
  go_quiet (fail)
  go_wp2_with fail
  clear w1 w2 w3 w4 w5 w6
  go_quiet (fail)
  clear q1 q2 q3
  go_wp2_with fail
  go_loop [9, 10] (fun g r => ∃ gn rn : Nat, g = .int .u64 gn ∧ r = .int .u64 rn ∧ rn < 4294967296 ∧ gn < 18446744073709551616 ∧ Hid (GuessAt (val l) (val m) (twoW (nth l n) (nth l (n - 1))) (nth m (n - 1)) gn rn)) (fun g _ => (intOf g).toNat)
  case atStart => exact ⟨_, _, rfl, rfl, hrem, hquo, hstart⟩
  case round =>
    obtain ⟨g, r, rfl, rfl, hr, hg, hat⟩ := hrel
    by_cases hbigG : 4294967296 ≤ g
    · have hd : decide ((4294967296 : Int) ≤ (g : Int)) = true := by simp; omega
      have HBG := Lib.hid hbigG
      have hg1 : 1 ≤ g := by omega
      clear hbigG
      by_cases hbr : 4294967296 ≤ r + nth m (n - 1)
      · have hd2 : decide ((4294967296 : Int) ≤ (r : Int) + (nth m (n - 1) : Int)) = true := by simp; omega
        have HBR := Lib.hid hbr
        clear hbr
        have hnext := Lib.hid (hat.out.next (Nat.lt_of_lt_of_le hqB.out HBG.out))
        go_wp2_with fail
        go_ret
        exact ⟨⟨g - 1, ret_int (by go_num), hnext.out.broke HBR.out hhf.out bs HTOP.out t3.out t2.out hbl.out⟩, _, rfl⟩
      · have hd2 : decide ((4294967296 : Int) ≤ (r : Int) + (nth m (n - 1) : Int)) = false := by simp; omega
        have HBR := Lib.hid hbr
        clear hbr
        have hnext := Lib.hid (hat.out.next (Nat.lt_of_lt_of_le hqB.out HBG.out))
        go_wp2_with fail
        exact ⟨⟨g - 1, by omega, r + nth m (n - 1), by omega, by have := HBR.out; omega, by omega, hnext⟩, by simp [intOf]; omega⟩
    · have hd : decide ((4294967296 : Int) ≤ (g : Int)) = false := by simp; omega
      have hg2 : g < 4294967296 := by omega
      have m1 := mulS_wrap1 hg2 bs
      have m2 := u64_twoW hr bn2
      have m3 := u64_shl32 r hr
      clear hbigG
      by_cases hgt : twoW r (nth l (n - 2)) < mulS g (nth m (n - 2)) 0 0
      · have hd3 : decide (twoW r (nth l (n - 2)) < mulS g (nth m (n - 2)) 0 0) = true := by simpa using hgt
        have HGT := Lib.hid hgt
        have hnext := Lib.hid (hat.out.next (hat.out.down (a2 := nth l (n - 2)) (s := nth m (n - 2)) (by have h9 := hgt; unfold twoW mulS at h9; omega) t3.out hrl.out t2.out hb0.out))
        have hg1 : 1 ≤ g := by have := hnext.out.le; have h9 := hgt; unfold twoW mulS at h9; rcases Nat.eq_zero_or_pos g with h0 | h0; (subst h0; simp at h9); exact h0
        clear hgt
        by_cases hbr : 4294967296 ≤ r + nth m (n - 1)
        · have hd2 : decide ((4294967296 : Int) ≤ (r : Int) + (nth m (n - 1) : Int)) = true := by simp; omega
          have HBR := Lib.hid hbr
          clear hbr
          go_wp2_with fail
          go_ret
          exact ⟨⟨g - 1, ret_int (by go_num), hnext.out.broke HBR.out hhf.out bs HTOP.out t3.out t2.out hbl.out⟩, _, rfl⟩
        · have hd2 : decide ((4294967296 : Int) ≤ (r : Int) + (nth m (n - 1) : Int)) = false := by simp; omega
          have HBR := Lib.hid hbr
          clear hbr
          go_wp2_with fail
          exact ⟨⟨g - 1, by omega, r + nth m (n - 1), by omega, by have := HBR.out; omega, by omega, hnext⟩, by simp [intOf]; omega⟩
      · have hd3 : decide (twoW r (nth l (n - 2)) < mulS g (nth m (n - 2)) 0 0) = false := by simpa using hgt
        have hfit := Lib.hid (hat.out.fits (a2 := nth l (n - 2)) (s := nth m (n - 2)) hg2 (by have h9 := hgt; unfold twoW mulS at h9; omega) HTOP.out t3.out t2.out hbl.out)
        clear hgt
        go_wp2_with fail
        go_ret
        exact ⟨⟨g, rfl, hfit.out⟩, _, rfl⟩
end Go.Proofs.YtafenoohjcpjgaaGreat
