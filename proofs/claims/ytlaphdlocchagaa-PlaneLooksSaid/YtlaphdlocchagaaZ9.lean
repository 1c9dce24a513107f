/- Several texts in one: Wm, Lm, Wn. -/
import Derived.Test.YtlaphdlocchagaaZ8
import Derived.Below
/- Division. -/
namespace Go.Proofs.Ytlaphdlocchagaa
open Go.RowKit

theorem compare_d {w : World} {u v : Value} {x y : Nat} (hu : IsW w u (digs x)) (hv : IsW w v (digs y)) :
    Calls Try.prog 56 #[u, v] w fun e w' => e = .returned (.int .i64 (cmpN x y)) ∧ (∃ n, w' = w.drewN n) := by
  have := compare_w hu hv (norm_digs x) (norm_digs y)
  rwa [val_digs, val_digs] at this

theorem value_d {w : World} {v : Value} {x : Nat} (h : IsW w v (digs x)) (hl : (digs x).length ≤ 2) :
    Calls Try.prog 85 #[v] w fun e w' => e = .returned (.int .u64 x) ∧ w = w' := by
  have := value_w h hl
  rwa [val_digs] at this

theorem fromUint_q (n : Nat) (hn : n < 18446744073709551616) (w : World) :
    Calls Try.prog 83 #[.int .u64 n] w fun e w' => (∃ r, e = .returned r ∧ IsW w' r (digs n) ∧ (∀ b, r.ownBlock = some b → w.heap.size ≤ b)) ∧ Below w.heap.size w w' := fromUint_w n hn

/-- What a division gives back: the quotient and the rest; their words new, or the dividend's. -/
def DivPost (w : World) (u : Value) (x y : Nat) (e : Ending) (w' : World) : Prop :=
  (∃ q r, e = .returned (.tuple #[q, r]) ∧ IsW w' q (digs (x / y)) ∧ IsW w' r (digs (x % y)) ∧ (∀ b, q.ownBlock = some b → w.heap.size ≤ b ∨ u.ownBlock = some b) ∧ (∀ b, r.ownBlock = some b → w.heap.size ≤ b ∨ u.ownBlock = some b)) ∧ Below w.heap.size w w'

theorem two_lt {l : List Nat} (h : Ws l) (hl : l.length ≤ 2) : val l < 18446744073709551616 := by
  have h1 := val_lt h
  have h2 : 4294967296 ^ l.length ≤ 4294967296 ^ 2 := Nat.pow_le_pow_right (by omega) hl
  have h3 : (4294967296 : Nat) ^ 2 = 18446744073709551616 := rfl
  omega

set_option maxHeartbeats 1000000 in
theorem div_w {w : World} {u v : Value} {x y : Nat} (hu : IsW w u (digs x)) (hv : IsW w v (digs y)) (hy : 0 < y) (hl : (digs x).length < 1073741824) :
    Calls Try.prog 82 #[u, v] w (DivPost w u x y) := by
  have HU := Lib.hid hu
  have HV := Lib.hid hv
  have HL := Lib.hid hl
  have HY := Lib.hid hy
  clear hu hv hl hy
  by_cases ho : y = 1
  · have ho1 := oneB_true ho
    have HO := Lib.hid ho
    clear ho
    go_enter Try.func82, Try.ntmps82
    go_wp2_with fail
    refine (isOne_w HV.out).mono ?_
    rintro en w1 ⟨rfl, rfl⟩
    go_wp2_with fail
    go_ret2
    refine ⟨⟨u, .slice none 0 0, rfl, ?_, ?_, fun b hb => Or.inr hb, by simp [Value.ownBlock]⟩, Below.refl _ _⟩
    · rw [HO.out, Nat.div_one]; exact HU.out
    · rw [HO.out, Nat.mod_one, digs_zero]; exact IsW.nil _
  · have ho1 := oneB_false ho
    have HO := Lib.hid ho
    clear ho
    by_cases hlt : x < y
    · have hc : cmpN x y < 0 := by unfold cmpN; rw [if_pos hlt]; omega
      have HLT := Lib.hid hlt
      clear hlt
      go_enter Try.func82, Try.ntmps82
      go_wp2_with fail
      refine (isOne_w HV.out).mono ?_
      rintro en w1 ⟨rfl, rfl⟩
      go_wp2_with fail
      refine (compare_d HU.out HV.out).mono ?_
      rintro en w1 ⟨rfl, n1, rfl⟩
      go_wp2_with fail
      go_ret2
      refine ⟨⟨.slice none 0 0, u, rfl, ?_, ?_, by simp [Value.ownBlock], fun b hb => Or.inr hb⟩, below_drewN (Below.refl _ _) _⟩
      · rw [Nat.div_eq_of_lt HLT.out, digs_zero]; exact IsW.nil _
      · rw [Nat.mod_eq_of_lt HLT.out]; exact HU.out
    · have hc : ¬ cmpN x y < 0 := by unfold cmpN; rw [if_neg hlt]; split <;> omega
      have HLE : Hid (y ≤ x) := Lib.hid (by omega)
      clear hlt
      by_cases hsh : (digs x).length ≤ 2
      · have hs1 := shortB_true hsh
        have HS := Lib.hid hsh
        have HS2 : Hid ((digs y).length ≤ 2) := Lib.hid (Nat.le_trans (len_digs_mono HLE.out) hsh)
        clear hsh
        have bx : x < 18446744073709551616 := by have := two_lt (ws_digs x) HS.out; rwa [val_digs] at this
        have w1 := quoW_wrap x y bx
        have hq : quoW x y < 18446744073709551616 := by
          have := Nat.div_le_self x y
          unfold quoW; generalize x / y = q at *; omega
        have hr : remW x y < 18446744073709551616 := by
          have := Nat.mod_le x y
          unfold remW; generalize x % y = q at *; omega
        have w2 : (x : Int) % (y : Int) = (remW x y : Int) := by unfold remW; rw [Int.natCast_emod]
        have hyn : 0 < y := HY.out
        go_enter Try.func82, Try.ntmps82
        go_wp2_with fail
        refine (isOne_w HV.out).mono ?_
        rintro en w1 ⟨rfl, rfl⟩
        go_wp2_with fail
        refine (compare_d HU.out HV.out).mono ?_
        rintro en w1 ⟨rfl, n1, rfl⟩
        go_wp2_with fail
        refine (short_w (HU.out.drewN n1)).mono ?_
        rintro en w1 ⟨rfl, rfl⟩
        go_wp2_with fail
        refine (value_d (HU.out.drewN n1) HS.out).mono ?_
        rintro en w1 ⟨rfl, rfl⟩
        go_wp2_with fail
        refine (value_d (HV.out.drewN n1) HS2.out).mono ?_
        rintro en w1 ⟨rfl, rfl⟩
        go_wp2_with fail
        refine (fromUint_q (quoW x y) hq _).mono ?_
        rintro en w2 ⟨⟨q, rfl, hq2, hqo⟩, hbel⟩
        have hbel := below_undraw hbel
        have HQ := Lib.hid hq2
        have HQO := Lib.hid hqo
        clear hq2 hqo
        go_wp2_with fail
        refine (value_d (HU.out.below hbel) HS.out).mono ?_
        rintro en w3 ⟨rfl, rfl⟩
        go_wp2_with fail
        refine (value_d (HV.out.below hbel) HS2.out).mono ?_
        rintro en w3 ⟨rfl, rfl⟩
        go_wp2_with fail
        refine (fromUint_q (remW x y) hr _).mono ?_
        rintro en w4 ⟨⟨r, rfl, hr2, hro⟩, hbel4⟩
        go_wp2_with fail
        go_ret2
        exact ⟨⟨q, r, rfl, HQ.out.below hbel4, hr2, fun b hb => Or.inl (HQO.out b hb), fun b hb => Or.inl (by have := hro b hb; have := hbel.size; omega)⟩, below_trans hbel hbel4⟩
      · have hs1 := shortB_false hsh
        have HS := Lib.hid hsh
        clear hsh
        obtain ⟨m, hm⟩ : ∃ m, m = digs y := ⟨_, rfl⟩
        obtain ⟨l, hll⟩ : ∃ l, l = digs x := ⟨_, rfl⟩
        have HM := Lib.hid hm
        have HLL := Lib.hid hll
        have hv := HV.out
        have hu := HU.out
        rw [← hm] at hv
        rw [← hll] at hu
        have HVm := Lib.hid hv
        have HUl := Lib.hid hu
        have hmw := ws_nth hv.ws 0
        obtain ⟨b, bcap, hbe, k1, k2, k3, k4, k5⟩ := id hv
        subst hbe
        have K4 := Lib.hid k4
        have hm0 : Hid (0 < m.length) := Lib.hid (by rw [HM.out]; exact List.length_pos_iff.2 (fun e => by have := HY.out; have := digs_eq_nil.1 e; omega))
        clear hm hll hv hu k3 k4 k5
        by_cases h1 : m.length = 1
        · have hd : ((m.length : Int) == 1) = true := by simp [h1]
          obtain ⟨bb, boff, rfl, -, -⟩ := K4.out (by intro e; simp at e; subst e; simp at h1)
          have hcell0 := HVm.out.cell 0 (by omega)
          have hy1 : Hid (val m = nth m 0 ∧ y = nth m 0) := Lib.hid (by
            have e : val m = nth m 0 := by
              have := pv_succ m 0 0
              rw [pv_zero, pv_eq_val (by omega)] at this
              simpa using this
            exact ⟨e, by rw [← e, HM.out, val_digs]⟩)
          have hpos : 0 < nth m 0 := by have := hy1.out.2; have := HY.out; omega
          have H1 := Lib.hid h1
          clear h1
          go_enter Try.func82, Try.ntmps82
          go_wp2_with fail
          refine (isOne_w HV.out).mono ?_
          rintro en w1 ⟨rfl, rfl⟩
          go_wp2_with fail
          refine (compare_d HU.out HV.out).mono ?_
          rintro en w1 ⟨rfl, n1, rfl⟩
          go_wp2_with fail
          refine (short_w (HU.out.drewN n1)).mono ?_
          rintro en w1 ⟨rfl, rfl⟩
          go_wp2_with fail
          have hl0 : Hid (0 < l.length) := Lib.hid (by have := HS.out; rw [HLL.out]; omega)
          refine (clone_b (HUl.out.drewN n1) hl0.out).mono ?_
          rintro en w2 ⟨rfl, hb2, hbel, hsz⟩
          simp only [World.heap_drewN] at hb2 hbel hsz
          have HSZ := Lib.hid hsz
          replace hbel := below_undraw hbel
          have hcell : w2.cell? ⟨bb, boff, none⟩ = some (.int .u32 (nth m 0)) := by
            have h9 := (HVm.out.below hbel).cell 0 (by have := hm0.out; omega)
            simpa using h9
          clear hsz hcell0
          go_wp2_with fail
          have hlw : Hid (Ws l) := Lib.hid HUl.out.ws
          have hll : Hid (l.length ≤ 1073741824) := Lib.hid HUl.out.len
          refine (divWord_l hb2 hlw.out (Nat.le_refl _) hll.out hpos hmw).mono ?_
          rintro en w3 ⟨rfl, L3, hb3, hw3, hl3, hon3, -, hv3⟩
          have hq3 : Hid (val L3 = x / y ∧ pv l 0 l.length % nth m 0 = x % y) := Lib.hid (by
            rw [pv_eq_val rfl] at hv3 ⊢
            rw [pv_eq_val hl3] at hv3
            rw [hv3, HLL.out, val_digs, ← hy1.out.2]
            exact ⟨rfl, rfl⟩)
          have hI := hb3.isW_all hw3 l.length (by omega) (by have := hll.out; omega)
          rw [hl3] at hI
          have HI := Lib.hid hI
          have hrm : pv l 0 l.length % nth m 0 < 4294967296 := Nat.lt_trans (Nat.mod_lt _ hpos) hmw
          obtain ⟨rr, hrr⟩ : ∃ rr, rr = pv l 0 l.length % nth m 0 := ⟨_, rfl⟩
          rw [← hrr] at hrm hq3 ⊢
          have w5 : IntKind.u64.wrap (rr : Int) = (rr : Int) := IntWalk.u64_in _ (by omega)
          clear hI hl3 hw3 hv3 hrr
          go_wp2_with fail
          refine (trim_d HI.out hq3.out.1).mono ?_
          rintro en w4 ⟨⟨q, rfl, hq, hqo⟩, rfl⟩
          go_wp2_with fail
          refine (fromUint_q rr (by omega) _).mono ?_
          rintro en w5 ⟨⟨r, rfl, hr, hro⟩, hbel5⟩
          go_wp2_with fail
          go_ret2
          have hbW := below_only hbel hon3 (Nat.le_refl _)
          rw [hq3.out.2] at hr
          refine ⟨⟨q, r, rfl, hq.below hbel5, hr, fun z hz => Or.inl ?_, fun z hz => Or.inl ?_⟩, below_trans hbW hbel5⟩
          · have h9 := hqo z hz
            simp [Value.ownBlock] at h9
            omega
          · have := hro z hz; have := hbW.size; omega
        · have hd : ((m.length : Int) == 1) = false := by simp; omega
          go_enter Try.func82, Try.ntmps82
          go_wp2_with fail
          refine (isOne_w HV.out).mono ?_
          rintro en w1 ⟨rfl, rfl⟩
          go_wp2_with fail
          refine (compare_d HU.out HV.out).mono ?_
          rintro en w1 ⟨rfl, n1, rfl⟩
          go_wp2_with fail
          refine (short_w (HU.out.drewN n1)).mono ?_
          rintro en w1 ⟨rfl, rfl⟩
          go_wp2_with fail
          have hdl := Lib.hid (divLong_c (w := w.drewN n1) HLL.out HM.out (HUl.out.drewN n1) (HVm.out.drewN n1) (by have := hm0.out; omega) (by rw [HM.out, HLL.out]; exact len_digs_mono HLE.out) (by rw [HLL.out]; exact HL.out))
          refine hdl.out.mono ?_
          rintro en w2 ⟨⟨q, r, rfl, hq, hr, hqo, hro⟩, hbel⟩
          go_wp2_with fail
          go_ret2
          exact ⟨⟨q, r, rfl, hq, hr, fun b hb => Or.inl (hqo b hb), fun b hb => Or.inl (hro b hb)⟩, below_undraw hbel⟩
end Go.Proofs.Ytlaphdlocchagaa

/- Several divisions of Euclid's algorithm at once (Lehmer), with the condition of Collins and Jebelean: plain arithmetic. -/
namespace Go.Proofs.Ytlaphdlocchagaa

/-- Behind some divisions of the first bits X0, Y0 of a and b: x, y are the rests, (A2, B2), (A3, B3) their shares, e the sign. -/
structure LeapInv (a b X0 Y0 e x y A2 B2 A3 B3 : Int) : Prop where
  he : e = 1 ∨ e = -1
  hx : x = e * (A2 * X0 - B2 * Y0)
  hy : y = e * (B3 * Y0 - A3 * X0)
  det : A2 * B3 - A3 * B2 = e
  xy : y ≤ x
  y0 : 0 ≤ y
  a2 : 0 ≤ A2
  b2 : 0 ≤ B2
  a3 : 0 ≤ A3
  b3 : 1 ≤ B3
  le3 : A3 ≤ B3
  les : A2 + A3 ≤ B2 + B3
  own : 1 ≤ B2 → e * (A2 * a - B2 * b) ≤ b
  mono : B2 ≤ B3
  le2 : 1 ≤ B2 → A2 ≤ B2

theorem leap_good {a b X0 Y0 e x y A2 B2 A3 B3 D a' b' : Int} (h : LeapInv a b X0 Y0 e x y A2 B2 A3 B3) (ha : a = X0 * D + a') (hb : b = Y0 * D + b') (ha0 : 0 ≤ a') (hb0 : 0 ≤ b') (haD : a' < D) (hbD : b' < D)
    (c1 : B3 ≤ y) (c2 : B2 + B3 ≤ x - y) : 0 ≤ e * (B3 * b - A3 * a) ∧ e * (B3 * b - A3 * a) < e * (A2 * a - B2 * b) := by
  obtain ⟨he, hx, hy, det, xy, y0, a2, b2, a3, b3, le3, les, own, mono, le2⟩ := h
  have e3 : e * (B3 * b - A3 * a) = y * D + e * (B3 * b' - A3 * a') := by rw [ha, hb, hy]; grind
  have e2 : e * (A2 * a - B2 * b) = x * D + e * (A2 * a' - B2 * b') := by rw [ha, hb, hx]; grind
  have hD : 0 < D := by omega
  have p1 : 0 ≤ B3 * b' := Int.mul_nonneg (by omega) hb0
  have p2 : 0 ≤ A3 * a' := Int.mul_nonneg a3 ha0
  have p3 : B3 * b' ≤ B3 * D := Int.mul_le_mul_of_nonneg_left (by omega) (by omega)
  have p4 : A3 * a' ≤ A3 * D := Int.mul_le_mul_of_nonneg_left (by omega) a3
  have p5 : A3 * D ≤ B3 * D := Int.mul_le_mul_of_nonneg_right le3 (by omega)
  have p6 : B3 * D ≤ y * D := Int.mul_le_mul_of_nonneg_right c1 (by omega)
  have p7 : (B2 + B3) * D ≤ (x - y) * D := Int.mul_le_mul_of_nonneg_right c2 (by omega)
  have p8 : (B2 + B3) * b' ≤ (B2 + B3) * (D - 1) := Int.mul_le_mul_of_nonneg_left (by omega) (by omega)
  have p9 : (A2 + A3) * a' ≤ (A2 + A3) * (D - 1) := Int.mul_le_mul_of_nonneg_left (by omega) (by omega)
  have p10 : (A2 + A3) * (D - 1) ≤ (B2 + B3) * (D - 1) := Int.mul_le_mul_of_nonneg_right les (by omega)
  have p11 : 0 ≤ (A2 + A3) * a' := Int.mul_nonneg (by omega) ha0
  have p12 : 0 ≤ (B2 + B3) * b' := Int.mul_nonneg (by omega) hb0
  have p13 : (B2 + B3) * (D - 1) = (B2 + B3) * D - (B2 + B3) := by grind
  have p14 : (x - y) * D = x * D - y * D := by grind
  have p15 : (A2 + A3) * a' = A2 * a' + A3 * a' := by grind
  have p16 : (B2 + B3) * b' = B2 * b' + B3 * b' := by grind
  rw [e2, e3]
  rcases he with rfl | rfl
  · refine ⟨by omega, by omega⟩
  · refine ⟨by omega, by omega⟩

theorem leap_next {a b X0 Y0 e x y A2 B2 A3 B3 q r : Int} (h : LeapInv a b X0 Y0 e x y A2 B2 A3 B3) (ha : 0 ≤ a) (hq : x = q * y + r) (hr0 : 0 ≤ r) (hr : r < y) (hq1 : 1 ≤ q)
    (hgood : e * (B3 * b - A3 * a) < e * (A2 * a - B2 * b)) : LeapInv a b X0 Y0 (-e) y r A3 B3 (A2 + q * A3) (B2 + q * B3) := by
  obtain ⟨he, hx, hy, det, xy, y0, a2, b2, a3, b3, le3, les, own, mono, le2⟩ := h
  have q3 : A3 ≤ q * A3 := by
    have := Int.mul_le_mul_of_nonneg_right hq1 a3; omega
  have q4 : B3 ≤ q * B3 := by
    have := Int.mul_le_mul_of_nonneg_right hq1 (show 0 ≤ B3 by omega); omega
  have q5 : (q - 1) * A3 ≤ (q - 1) * B3 := Int.mul_le_mul_of_nonneg_left le3 (by omega)
  have q6 : (q - 1) * A3 = q * A3 - A3 := by grind
  have q7 : (q - 1) * B3 = q * B3 - B3 := by grind
  refine ⟨by omega, by rw [hy]; grind, ?_, ?_, by omega, hr0, a3, by omega, by omega, by omega, by omega, by omega, ?_, by omega, fun _ => le3⟩
  · have : r = x - q * y := by omega
    rw [this, hx, hy]; grind
  · grind
  · intro _
    have e1 : -e * (A3 * a - B3 * b) = e * (B3 * b - A3 * a) := by grind
    rw [e1]
    by_cases hB : 1 ≤ B2
    · have := own hB; omega
    · have hB0 : B2 = 0 := by omega
      subst hB0
      have hd : A2 * B3 = e := by grind
      have he1 : e = 1 := by
        rcases he with h | h
        · exact h
        · have : 0 ≤ A2 * B3 := Int.mul_nonneg a2 (by omega)
          omega
      subst he1
      have hB3 : B3 = 1 := by
        have hA2 : 1 ≤ A2 := by
          rcases Int.lt_or_le A2 1 with h | h
          · have : A2 = 0 := by omega
            subst this; omega
          · exact h
        have := Int.mul_le_mul_of_nonneg_right hA2 (show 0 ≤ B3 by omega)
        omega
      subst hB3
      have : 0 ≤ A3 * a := Int.mul_nonneg a3 ha
      omega

theorem leap_sum {a b X0 Y0 e x y A2 B2 A3 B3 : Int} (h : LeapInv a b X0 Y0 e x y A2 B2 A3 B3) : B3 * x + B2 * y = X0 := by
  obtain ⟨he, hx, hy, det, xy, y0, a2, b2, a3, b3, le3, les, own, mono, le2⟩ := h
  rw [hx, hy]
  have : e * e = 1 := by rcases he with rfl | rfl <;> rfl
  grind

theorem leap_back {a b X0 Y0 e x y A2 B2 A3 B3 : Int} (h : LeapInv a b X0 Y0 e x y A2 B2 A3 B3) :
    a = B3 * (e * (A2 * a - B2 * b)) + B2 * (e * (B3 * b - A3 * a)) ∧ b = A3 * (e * (A2 * a - B2 * b)) + A2 * (e * (B3 * b - A3 * a)) := by
  obtain ⟨he, hx, hy, det, xy, y0, a2, b2, a3, b3, le3, les, own, mono, le2⟩ := h
  have : e * e = 1 := by rcases he with rfl | rfl <;> rfl
  refine ⟨by grind, by grind⟩

/-- The multiples stay below 2^32 while the condition holds; the next ones below 2^64. -/
theorem leap_small {a b X0 Y0 e x y A2 B2 A3 B3 : Int} (h : LeapInv a b X0 Y0 e x y A2 B2 A3 B3) (hX : X0 < 18446744073709551616) (c1 : B3 ≤ y) : B3 < 4294967296 ∧ A3 < 4294967296 := by
  have hs := leap_sum h
  have h1 : B3 * B3 ≤ B3 * x := Int.mul_le_mul_of_nonneg_left (by have := h.xy; omega) (by have := h.b3; omega)
  have h2 : 0 ≤ B2 * y := Int.mul_nonneg h.b2 h.y0
  have h3 : B3 < 4294967296 := by
    rcases Int.lt_or_le B3 4294967296 with h4 | h4
    · exact h4
    · have h5 := Int.mul_le_mul h4 h4 (by omega) (by omega)
      omega
  exact ⟨h3, by have := h.le3; omega⟩
theorem leap_next_small {a b X0 Y0 e x y A2 B2 A3 B3 : Int} (h : LeapInv a b X0 Y0 e x y A2 B2 A3 B3) (hx : 1 ≤ x) : B3 ≤ X0 := by
  have hs := leap_sum h
  have h1 : B3 * 1 ≤ B3 * x := Int.mul_le_mul_of_nonneg_left hx (by have := h.b3; omega)
  have h2 : 0 ≤ B2 * y := Int.mul_nonneg h.b2 h.y0
  omega

theorem gcd_of_combos {a b r s : Nat} {A2 B2 A3 B3 e : Int} (hr : (r : Int) = e * (A2 * a - B2 * b)) (hs : (s : Int) = e * (B3 * b - A3 * a)) (ha : (a : Int) = B3 * r + B2 * s) (hb : (b : Int) = A3 * r + A2 * s) : Nat.gcd r s = Nat.gcd a b := by
  apply Nat.dvd_antisymm
  · apply Nat.dvd_gcd
    · have h1 : ((Nat.gcd r s : Nat) : Int) ∣ (a : Int) := by
        rw [ha]; exact Int.dvd_add (Int.dvd_mul_of_dvd_right (Int.natCast_dvd_natCast.2 (Nat.gcd_dvd_left r s))) (Int.dvd_mul_of_dvd_right (Int.natCast_dvd_natCast.2 (Nat.gcd_dvd_right r s)))
      exact Int.natCast_dvd_natCast.1 h1
    · have h1 : ((Nat.gcd r s : Nat) : Int) ∣ (b : Int) := by
        rw [hb]; exact Int.dvd_add (Int.dvd_mul_of_dvd_right (Int.natCast_dvd_natCast.2 (Nat.gcd_dvd_left r s))) (Int.dvd_mul_of_dvd_right (Int.natCast_dvd_natCast.2 (Nat.gcd_dvd_right r s)))
      exact Int.natCast_dvd_natCast.1 h1
  · have ga : ((Nat.gcd a b : Nat) : Int) ∣ (a : Int) := Int.natCast_dvd_natCast.2 (Nat.gcd_dvd_left a b)
    have gb : ((Nat.gcd a b : Nat) : Int) ∣ (b : Int) := Int.natCast_dvd_natCast.2 (Nat.gcd_dvd_right a b)
    apply Nat.dvd_gcd
    · have h1 : ((Nat.gcd a b : Nat) : Int) ∣ (r : Int) := by
        rw [hr]; exact Int.dvd_mul_of_dvd_right (Int.dvd_sub (Int.dvd_mul_of_dvd_right ga) (Int.dvd_mul_of_dvd_right gb))
      exact Int.natCast_dvd_natCast.1 h1
    · have h1 : ((Nat.gcd a b : Nat) : Int) ∣ (s : Int) := by
        rw [hs]; exact Int.dvd_mul_of_dvd_right (Int.dvd_sub (Int.dvd_mul_of_dvd_right gb) (Int.dvd_mul_of_dvd_right ga))
      exact Int.natCast_dvd_natCast.1 h1
end Go.Proofs.Ytlaphdlocchagaa

/- What a leap of Euclid's algorithm computes with words. -/
namespace Go.Proofs.Ytlaphdlocchagaa
open Go.RowKit

theorem less_step {l m M : List Nat} {k p q mo le br : Nat} (hk : k < M.length) (hb : br ≤ 1) (hv : pv M 0 k + q * pv m 0 k + 4294967296 ^ k * mo = p * pv l 0 k + 4294967296 ^ k * (le + br)) :
    pv (M.set k (subU (subU (lowW (mulS p (nth l k) 0 mo)) (lowW (mulS q (nth m k) 0 le))) br % 4294967296)) 0 (k + 1) + q * pv m 0 (k + 1) + 4294967296 ^ (k + 1) * (mulS p (nth l k) 0 mo / 4294967296) =
      p * pv l 0 (k + 1) + 4294967296 ^ (k + 1) * (mulS q (nth m k) 0 le / 4294967296 + subU (subU (lowW (mulS p (nth l k) 0 mo)) (lowW (mulS q (nth m k) 0 le))) br / 9223372036854775808) := by
  have h1 : lowW (mulS p (nth l k) 0 mo) < 4294967296 := Nat.mod_lt _ (by omega)
  have h2 : lowW (mulS q (nth m k) 0 le) < 4294967296 := Nat.mod_lt _ (by omega)
  have h := (subU_word _ _ br h1 h2 hb).1
  have g1 := Nat.mod_add_div (mulS p (nth l k) 0 mo) 4294967296
  have g2 := Nat.mod_add_div (mulS q (nth m k) 0 le) 4294967296
  have e := pv_set M 0 k (subU (subU (lowW (mulS p (nth l k) 0 mo)) (lowW (mulS q (nth m k) 0 le))) br % 4294967296) (by omega)
  rw [Nat.zero_add] at e
  rw [e, pv_succ, pv_succ, Nat.zero_add, Nat.pow_succ]
  generalize subU (subU (lowW (mulS p (nth l k) 0 mo)) (lowW (mulS q (nth m k) 0 le))) br / 9223372036854775808 = t at *
  generalize subU (subU (lowW (mulS p (nth l k) 0 mo)) (lowW (mulS q (nth m k) 0 le))) br % 4294967296 = d at *
  unfold lowW at h
  generalize mulS p (nth l k) 0 mo / 4294967296 = u1 at *
  generalize mulS p (nth l k) 0 mo % 4294967296 = d1 at *
  generalize mulS q (nth m k) 0 le / 4294967296 = u2 at *
  generalize mulS q (nth m k) 0 le % 4294967296 = d2 at *
  unfold mulS at g1 g2
  generalize 4294967296 ^ k = P at *
  have e1 : P * (d + d2 + br) = P * (d1 + 4294967296 * t) := by rw [h]
  have e2 : P * (d1 + 4294967296 * u1) = P * (mo + (p * nth l k + 0)) := by rw [g1]
  have e3 : P * (d2 + 4294967296 * u2) = P * (le + (q * nth m k + 0)) := by rw [g2]
  grind

theorem less_end {l m M : List Nat} {N p q mo le br R : Nat} (hM : Ws M) (hlen : M.length = N) (hl : l.length ≤ N) (hm : m.length ≤ N) (hv : pv M 0 N + q * pv m 0 N + 4294967296 ^ N * mo = p * pv l 0 N + 4294967296 ^ N * (le + br))
    (hR : p * val l = q * val m + R) (hRN : R < 4294967296 ^ N) : val M = R := by
  rw [pv_eq_val hlen, pv_all hl, pv_all hm, hR] at hv
  have h1 := val_lt hM
  rw [hlen] at h1
  generalize 4294967296 ^ N = P at *
  have h2 : val M + P * mo = R + P * (le + br) := by omega
  have h3 := congrArg (· % P) h2
  simp only [Nat.add_mul_mod_self_left] at h3
  rwa [Nat.mod_eq_of_lt h1, Nat.mod_eq_of_lt hRN] at h3

set_option maxHeartbeats 1000000 in
theorem timesLess_l {w : World} {u v : Value} {l m : List Nat} {p q N R : Nat} (hu : IsW w u l) (hv : IsW w v m) (hp : p < 4294967296) (hq : q < 4294967296) (hN : N = max l.length m.length) (hR : p * val l = q * val m + R) (hRN : R < 4294967296 ^ N) :
    Calls Try.prog 94 #[u, .int .u64 p, v, .int .u64 q] w fun e w' => (∃ r, e = .returned r ∧ IsW w' r (digs R) ∧ (∀ b, r.ownBlock = some b → w.heap.size ≤ b)) ∧ Below w.heap.size w w' := by
  have HU := Lib.hid hu
  have HV := Lib.hid hv
  have hNl : N ≤ 1073741824 ∧ l.length ≤ N ∧ m.length ≤ N := ⟨by have := hu.len; have := hv.len; omega, by omega, by omega⟩
  have HNM := Lib.hid hN
  have HR := Lib.hid hR
  have HRN := Lib.hid hRN
  obtain ⟨a, cap, rfl, i1, i2, i3, i4, i5⟩ := hu
  obtain ⟨b, bcap, rfl, k1, k2, k3, k4, k5⟩ := hv
  have hmx : max (l.length : Int) (m.length : Int) = (N : Int) := by omega
  obtain ⟨n1, n2, n3⟩ := hNl
  clear i3 i4 i5 k3 k4 k5 hN hR hRN
  go_enter Try.func94, Try.ntmps94
  go_wp2_with (at_make; refine wpList_make_words' rfl _ _ _ _ rfl uw iu32 N _ _ rfl rfl (by omega) (by omega) (by omega) ?_; intro w1 hb1 hbel hs1; refine halt ?_)
  all_goals
    refine go_on ?_
    go_wp2_with fail
    go_loopw [10, 11, 12, 23] (fun mo le br i wr => ∃ (k mon len brn : Nat) (M : List Nat), k ≤ N ∧ i = .int .i64 k ∧ mo = .int .u64 mon ∧ le = .int .u64 len ∧ br = .int .u64 brn ∧ mon < 4294967296 ∧ len < 4294967296 ∧ brn ≤ 1 ∧ Blk wr w.heap.size 53 M ∧ Hid (Ws M) ∧ Hid (M.length = N) ∧ Below w.heap.size w wr ∧
        Hid (pv M 0 k + q * pv m 0 k + 4294967296 ^ k * mon = p * pv l 0 k + 4294967296 ^ k * (len + brn))) (fun _ _ _ i _ => N - (intOf i).toNat)
    case atStart => exact ⟨0, 0, 0, 0, _, Nat.zero_le _, rfl, rfl, rfl, rfl, by omega, by omega, by omega, hb1, Lib.hid (ws_replicate _), Lib.hid (by simp), hbel, Lib.hid (by simp [pv_zero])⟩
    case round =>
      obtain ⟨k, mo, le, br, M, hk, rfl, rfl, rfl, rfl, hmo, hle, hbr, hM, hMw, hMl, hon, hval⟩ := hrel
      by_cases hkn : k < N
      · have hx := ws_nth HU.out.ws k
        have hy := ws_nth HV.out.ws k
        have hcellM := hM.cell k (by have := hMl.out; omega)
        have hfree := hM.free k
        have w1 := mulS_wrap1 hp hx
        have w2 := mulS_wrap3 hp hx (show 0 < 4294967296 by omega) hmo
        have w3 := mulS_lt hp hx (show 0 < 4294967296 by omega) hmo
        have w4 := lowW_and _ w3
        have w5 := mulS_wrap1 hq hy
        have w6 := mulS_wrap3 hq hy (show 0 < 4294967296 by omega) hle
        have w7 := mulS_lt hq hy (show 0 < 4294967296 by omega) hle
        have w8 := lowW_and _ w7
        have hl1 : lowW (mulS p (nth l k) 0 mo) < 4294967296 := Nat.mod_lt _ (by omega)
        have hl2 : lowW (mulS q (nth m k) 0 le) < 4294967296 := Nat.mod_lt _ (by omega)
        have w9 := subU_wrap (lowW (mulS p (nth l k) 0 mo)) (lowW (mulS q (nth m k) 0 le)) (by omega) (by omega)
        have w10 := subU_wrap (subU (lowW (mulS p (nth l k) 0 mo)) (lowW (mulS q (nth m k) 0 le))) br (subU_lt _ _) (by omega)
        have w11 := subU_lt (subU (lowW (mulS p (nth l k) 0 mo)) (lowW (mulS q (nth m k) 0 le))) br
        go_wp2_with fail
        refine (at_w (HU.out.below hon) k).mono ?_
        rintro en w2 ⟨rfl, rfl⟩
        go_wp2_with fail
        refine (at_w (HV.out.below hon) k).mono ?_
        rintro en w2 ⟨rfl, rfl⟩
        go_wp2_with fail
        go_roundw
        case rel =>
          have hw := subU_word _ _ br hl1 hl2 hbr
          exact ⟨k + 1, mulS p (nth l k) 0 mo / 4294967296, mulS q (nth m k) 0 le / 4294967296, subU (subU (lowW (mulS p (nth l k) 0 mo)) (lowW (mulS q (nth m k) 0 le))) br / 9223372036854775808,
            M.set k (subU (subU (lowW (mulS p (nth l k) 0 mo)) (lowW (mulS q (nth m k) 0 le))) br % 4294967296), by omega, by go_num, by go_num, by go_num, by go_num, by omega, by omega, hw.2,
            hM.setCell k _ _ (by unfold U; go_num), Lib.hid (ws_set hMw.out _ (by omega)), Lib.hid (by rw [List.length_set]; exact hMl.out), hon.setCell (Nat.le_refl _) _, Lib.hid (less_step (by have := hMl.out; omega) hbr hval.out)⟩
        case measure => simp [intOf]; omega
      · obtain rfl : k = N := by omega
        have hMv : Hid (val M = R) := Lib.hid (less_end hMw.out hMl.out n2 n3 hval.out HR.out HRN.out)
        have hI := hM.isW_all hMw.out k (by have := hMl.out; omega) (by have := hMl.out; omega)
        rw [hMl.out] at hI
        have HI := Lib.hid hI
        clear hI
        go_wp2_with fail
        refine (trim_d HI.out hMv.out).mono ?_
        rintro en w4 ⟨⟨r, rfl, hr, hown⟩, rfl⟩
        go_wp2_with fail
        go_ret
        refine ⟨⟨r, rfl, hr, fun x hx => ?_⟩, hon⟩
        have := hown x hx
        simp [Value.ownBlock] at this
        omega
end Go.Proofs.Ytlaphdlocchagaa
