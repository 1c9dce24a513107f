/- Several texts in one: Wr, Ws, Wt. -/
import Derived.Test.YtafenoohjcpjgaaGreatZ7
import Derived.Deep.LoopGhost
/- The greatest common divisor. -/
namespace Go.Proofs.YtafenoohjcpjgaaGreat
open Go.RowKit

set_option maxHeartbeats 400000 in
theorem gcdUint_w {w : World} (x y : Nat) (hx : x < 18446744073709551616) (hy : y < 18446744073709551616) :
    Calls Tryz.prog 129 #[.int .u64 x, .int .u64 y] w fun e w' => e = .returned (.int .u64 (Nat.gcd x y : Nat)) ∧ ∃ n, w' = w.drewN n := by
  go_enter Tryz.func129, Tryz.ntmps129
  go_wp2_with fail
  go_loopw [0, 1] (fun a b wr => ∃ xa ya : Nat, a = .int .u64 xa ∧ b = .int .u64 ya ∧ xa < 18446744073709551616 ∧ ya < 18446744073709551616 ∧ Hid (Nat.gcd xa ya = Nat.gcd x y) ∧ ∃ n, wr = w.drewN n) (fun _ b _ => (intOf b).toNat)
  case atStart => exact ⟨x, y, rfl, rfl, hx, hy, Lib.hid rfl, 0, rfl⟩
  case round =>
    obtain ⟨xa, ya, rfl, rfl, hxa, hya, hg, n, rfl⟩ := hrel
    by_cases h0 : ya = 0
    · have h1 : ((ya : Int) == 0) = true := by simp [h0]
      have H0 := Lib.hid h0
      clear h0
      have h2 : ((ya : Int) != 0) = false := by simpa using h1
      go_wp2_with fail
      go_ret
      refine ⟨ret_int ?_, _, rfl⟩
      rw [← hg.out, H0.out, Nat.gcd_zero_right]
    · have h2 : ((ya : Int) != 0) = true := by simp; omega
      have h3 : 0 < ya := by omega
      have w2 : (xa : Int).tmod (ya : Int) = (remW xa ya : Int) := by rw [Int.tmod_eq_emod_of_nonneg (by omega)]; rfl
      have hr : Hid (remW xa ya < ya) := Lib.hid (Nat.mod_lt _ h3)
      have hgn : Hid (Nat.gcd ya (remW xa ya) = Nat.gcd x y) := Lib.hid (by
        rw [← hg.out]; unfold remW; rw [Nat.gcd_comm xa ya, Nat.gcd_rec ya xa, Nat.gcd_comm])
      clear h0
      go_wp2_with fail
      go_quiet (fail)
      go_wp2_with fail
      go_roundw
      case rel => exact ⟨ya, remW xa ya, rfl, rfl, hya, by have := hr.out; omega, hgn, n + nq, World.drewN_drewN _ _ _⟩
      case measure => simp [intOf]; have := hr.out; omega

set_option maxHeartbeats 400000 in
theorem over_w {w : World} {u v : Value} {x y : Nat} (hu : IsW w u (digs x)) (hv : IsW w v (digs y)) (hy : 0 < y) (hl : (digs x).length < 1073741824) :
    Calls Tryz.prog 153 #[u, v] w fun e w' => (∃ q, e = .returned q ∧ IsW w' q (digs (x / y)) ∧ (∀ b, q.ownBlock = some b → w.heap.size ≤ b ∨ u.ownBlock = some b)) ∧ Below w.heap.size w w' := by
  have hC := Lib.hid (div_w hu hv hy hl)
  clear hu hv hy hl
  go_enter Tryz.func153, Tryz.ntmps153
  go_wp2_with fail
  refine hC.out.mono ?_
  rintro en w1 ⟨⟨q, r, rfl, hq, hr, hqo, hro⟩, hbel⟩
  go_wp2_with fail
  go_ret
  exact ⟨⟨q, rfl, hq, hqo⟩, hbel⟩

/-- The words of a result are new, or of one of the two that were handed in. -/
def Own3 (w : World) (u v r : Value) : Prop := ∀ b, r.ownBlock = some b → w.heap.size ≤ b ∨ u.ownBlock = some b ∨ v.ownBlock = some b

def GcdPost (w : World) (u v : Value) (g : Nat) (e : Ending) (w' : World) : Prop := (∃ r, e = .returned r ∧ IsW w' r (digs g) ∧ Own3 w u v r) ∧ Below w.heap.size w w'
theorem LeapOk.rests {a b A1 B1 A2 B2 : Nat} {t : Bool} (h : LeapOk a b A1 B1 A2 B2 t) : ∃ R1 R2 : Nat, R2 ≤ R1 ∧ R1 ≤ b ∧ R2 < b ∧ Nat.gcd R1 R2 = Nat.gcd a b ∧ A1 < 4294967296 ∧ B1 < 4294967296 ∧ A2 < 4294967296 ∧ B2 < 4294967296 ∧
    (t = true → B1 * b = A1 * a + R1 ∧ A2 * a = B2 * b + R2) ∧ (t = false → A1 * a = B1 * b + R1 ∧ B2 * b = A2 * a + R2) := by
  obtain ⟨h1, h2, h3, h4, R1, R2, h5, h6, h7, h8, h9⟩ := h
  refine ⟨R1, R2, h6, h7, h8, h9, h1, h2, h3, h4, fun ht => by simpa [ht] using h5, fun ht => by simpa [ht] using h5⟩

/-- What holds at the head of the loop. -/
structure GcdAt (w wr : World) (u v A B : Value) (x y xa ya : Nat) : Prop where
  a : IsW wr A (digs xa)
  b : IsW wr B (digs ya)
  le : ya ≤ xa
  gcd : Nat.gcd xa ya = Nat.gcd x y
  la : (digs xa).length < 1073741824
  lb : (digs ya).length < 1073741824
  oa : Own3 w u v A
  ob : Own3 w u v B
  bel : Below w.heap.size w wr

theorem leap_apply {w : World} {A B : Value} {xa ya a1 b1 a2 b2 : Nat} {t : Bool} {R1 R2 : Nat} (hA : IsW w A (digs xa)) (hB : IsW w B (digs ya)) (ha1 : a1 < 4294967296) (hb1 : b1 < 4294967296) (ha2 : a2 < 4294967296) (hb2 : b2 < 4294967296)
    (ht : t = true → b1 * ya = a1 * xa + R1 ∧ a2 * xa = b2 * ya + R2) (hf : t = false → a1 * xa = b1 * ya + R1 ∧ b2 * ya = a2 * xa + R2) (hR1 : R1 ≤ ya) (hR2 : R2 ≤ ya) :
    Calls Tryz.prog 126 #[leapV a1 b1 a2 b2 t, A, B] w fun e w' => (∃ r s, e = .returned (.tuple #[r, s]) ∧ IsW w' r (digs R1) ∧ IsW w' s (digs R2) ∧ (∀ b, r.ownBlock = some b → w.heap.size ≤ b) ∧ (∀ b, s.ownBlock = some b → w.heap.size ≤ b)) ∧ Below w.heap.size w w' := by
  have hlt : ya < 4294967296 ^ max (digs xa).length (digs ya).length := Nat.lt_of_lt_of_le (lt_of_len_digs ya) (Nat.pow_le_pow_right (by omega) (by omega))
  cases t with
  | true => exact apply_t hA hB ha1 hb1 ha2 hb2 rfl (by rw [val_digs, val_digs]; exact (ht rfl).1) (by rw [val_digs, val_digs]; exact (ht rfl).2) (by omega) (by omega)
  | false => exact apply_f hA hB ha1 hb1 ha2 hb2 rfl (by rw [val_digs, val_digs]; exact (hf rfl).1) (by rw [val_digs, val_digs]; exact (hf rfl).2) (by omega) (by omega)

theorem own_new {w wr : World} {u v r : Value} (h : ∀ b, r.ownBlock = some b → wr.heap.size ≤ b) (hb : Below w.heap.size w wr) : Own3 w u v r := fun b e => Or.inl (by have := h b e; have := hb.size; omega)
theorem own_div {w wr : World} {u v A r : Value} (h : ∀ b, r.ownBlock = some b → wr.heap.size ≤ b ∨ A.ownBlock = some b) (hA : Own3 w u v A) (hb : Below w.heap.size w wr) : Own3 w u v r := fun b e => by
  rcases h b e with h1 | h1
  · exact Or.inl (by have := hb.size; omega)
  · exact hA b h1

set_option maxRecDepth 100000 in
set_option maxHeartbeats 1000000 in
theorem gcd_w {w : World} {u v : Value} {x y : Nat} (hu : IsW w u (digs x)) (hv : IsW w v (digs y)) (hlx : (digs x).length < 1073741824) (hly : (digs y).length < 1073741824) :
    Calls Tryz.prog 98 #[u, v] w (GcdPost w u v (Nat.gcd x y)) := by
  have HU := Lib.hid hu
  have HV := Lib.hid hv
  have HLX := Lib.hid hlx
  have HLY := Lib.hid hly
  clear hu hv hlx hly
  by_cases hlt : x < y
  · have hc : cmpN x y < 0 := by unfold cmpN; rw [if_pos hlt]; omega
    have HST : ∀ n, Hid (GcdAt w (w.drewN n) u v v u x y y x) := fun n => Lib.hid ⟨HV.out.drewN n, HU.out.drewN n, by omega, Nat.gcd_comm y x, HLY.out, HLX.out, fun b h => Or.inr (Or.inr h), fun b h => Or.inr (Or.inl h), below_drewN (Below.refl _ _) n⟩
    clear hlt
    go_enter Tryz.func98, Tryz.ntmps98
    go_wp2_with fail
    refine (compare_d HU.out HV.out).mono ?_
    rintro en w1 ⟨rfl, n1, rfl⟩
    go_wp2_with fail
    go_loopg [0, 1] x (fun g A B wr => ∃ xa ya : Nat, g = ya ∧ Hid (GcdAt w wr u v A B x y xa ya))
    case atStart => exact ⟨y, x, rfl, HST n1⟩
    case round =>
      obtain ⟨xa, ya, hg, hat⟩ := hrel
      have hg' := hg.symm
      subst hg'
      clear hg
      by_cases hsh : (digs ya).length ≤ 2
      · have hs1 := shortB_true hsh
        have HS := Lib.hid hsh
        clear hsh
        go_wp2_with fail
        refine (short_w hat.out.b).mono ?_
        rintro en w2 ⟨rfl, rfl⟩
        have hHB := Lib.hid hat.out.b
        have hHA := Lib.hid hat.out.a
        by_cases hz : ya = 0
        · have hz1 := zerB_true hz
          have HZ := Lib.hid hz
          clear hz
          go_wp2_with fail
          refine (isZero_w hHB.out).mono ?_
          rintro en w3 ⟨rfl, rfl⟩
          go_wp2_with fail
          go_ret
          refine ⟨⟨u0, rfl, ?_, hat.out.oa⟩, hat.out.bel⟩
          have e : Nat.gcd x y = xa := by rw [← hat.out.gcd, HZ.out, Nat.gcd_zero_right]
          rw [e]; exact hHA.out
        · have hz1 := zerB_false hz
          have hpos : Hid (0 < ya) := Lib.hid (by omega)
          clear hz
          go_wp2_with fail
          refine (isZero_w hHB.out).mono ?_
          rintro en w3 ⟨rfl, rfl⟩
          go_wp2_with fail
          refine (div_w hHA.out hHB.out hpos.out hat.out.la).mono ?_
          rintro en w4 ⟨⟨q, r, rfl, hq, hr, hqo, hro⟩, hbel4⟩
          have HR := Lib.hid hr
          clear hq hr hqo hro
          have hrl : Hid (xa % ya < ya) := Lib.hid (Nat.mod_lt _ hpos.out)
          have hrs : Hid ((digs (xa % ya)).length ≤ 2) := Lib.hid (Nat.le_trans (len_digs_mono (Nat.le_of_lt hrl.out)) HS.out)
          have hyb : ya < 18446744073709551616 := by have := two_lt (ws_digs ya) HS.out; rwa [val_digs] at this
          obtain ⟨rm, hrm⟩ : ∃ rm, rm = xa % ya := ⟨_, rfl⟩
          have HRM := Lib.hid hrm
          rw [← hrm] at HR hrl hrs
          clear hrm
          have hgl : Nat.gcd ya rm < 18446744073709551616 := Nat.lt_of_le_of_lt (Nat.gcd_le_left _ hpos.out) hyb
          obtain ⟨g, hg⟩ : ∃ g, g = Nat.gcd ya rm := ⟨_, rfl⟩
          have HG := Lib.hid hg
          rw [← hg] at hgl
          clear hg
          go_wp2_with fail
          refine (value_d (hHB.out.below hbel4) HS.out).mono ?_
          rintro en w5 ⟨rfl, rfl⟩
          go_wp2_with fail
          refine (value_d HR.out hrs.out).mono ?_
          rintro en w5 ⟨rfl, rfl⟩
          have hC := Lib.hid (gcdUint_w (w := w4) ya rm hyb (by have := hrl.out; omega))
          rw [← HG.out] at hC
          go_wp2_with fail
          refine hC.out.mono ?_
          rintro en w5 ⟨rfl, n5, rfl⟩
          go_wp2_with fail
          refine (fromUint_q g hgl _).mono ?_
          rintro en w6 ⟨⟨r2, rfl, hr2, hro2⟩, hbel6⟩
          go_wp2_with fail
          go_ret
          have e : Nat.gcd x y = g := by rw [HG.out, HRM.out, ← hat.out.gcd, Nat.gcd_comm xa ya, Nat.gcd_rec ya xa, Nat.gcd_comm]
          rw [← e] at hr2
          exact ⟨⟨r2, rfl, hr2, own_new (wr := w4) hro2 (below_trans hat.out.bel hbel4)⟩, below_trans (below_trans hat.out.bel hbel4) (below_undraw hbel6)⟩
      · have hs1 := shortB_false hsh
        have HS := Lib.hid hsh
        clear hsh
        go_wp2_with fail
        refine (short_w hat.out.b).mono ?_
        rintro en w2 ⟨rfl, rfl⟩
        go_wp2_with fail
        refine (findLeap_c rfl rfl hat.out.a hat.out.b (by have := HS.out; omega) hat.out.le).mono ?_
        rintro en wf ⟨⟨a1, b1, a2, b2, t, rfl, hok⟩, hbf⟩
        have HOK := Lib.hid hok
        unfold leapV
        clear hok
        have hyp : Hid (0 < ya) := Lib.hid (by
          rcases Nat.eq_zero_or_pos ya with h | h
          · exfalso; apply HS.out; rw [h, digs_zero]; simp
          · exact h)
        have hHA := Lib.hid hat.out.a
        have hHB := Lib.hid hat.out.b
        have hA5 : At5 (wf.alloc (Obj.cells #[Value.int IntKind.u64 a1, Value.int IntKind.u64 b1, Value.int IntKind.u64 a2, Value.int IntKind.u64 b2, Value.bool t] 135)) wf.heap.size a1 b1 a2 b2 t := heap_alloc_new _ _
        have hbA := (Below.refl wf.heap.size wf).alloc (Nat.le_refl _) (Obj.cells #[Value.int IntKind.u64 a1, Value.int IntKind.u64 b1, Value.int IntKind.u64 a2, Value.int IntKind.u64 b2, Value.bool t] 135)
        have HA5 := Lib.hid hA5
        have HBA := Lib.hid hbA
        clear hA5 hbA
        by_cases hb0 : b1 = 0
        · have hbb : (b1 == 0) = true := by simp [hb0]
          clear hb0
          go_wp2_with fail
          refine (any_l (a1 := a1) (b1 := b1) (a2 := a2) (b2 := b2) (t := t)).mono ?_
          rintro en w2 ⟨rfl, hbel2⟩
          have hB2 := Lib.hid (below_trans hbf (below_trans HBA.out hbel2))
          go_wp2_with fail
          refine (div_w (hHA.out.below hB2.out) (hHB.out.below hB2.out) hyp.out hat.out.la).mono ?_
          rintro en w3 ⟨⟨q, r, rfl, hq, hr, hqo, hro⟩, hbel3⟩
          have hm := Nat.mod_lt xa hyp.out
          have hnew : Hid (GcdAt w w3 u v u1 r x y ya (xa % ya)) := Lib.hid ⟨(hHB.out.below hB2.out).below hbel3, hr, Nat.le_of_lt hm, by rw [← hat.out.gcd, Nat.gcd_comm xa ya, Nat.gcd_rec ya xa, Nat.gcd_comm], hat.out.lb, Nat.lt_of_le_of_lt (len_digs_mono (Nat.le_of_lt hm)) hat.out.lb,
            hat.out.ob, own_div hro hat.out.oa (below_trans hat.out.bel hB2.out), below_trans (below_trans hat.out.bel hB2.out) hbel3⟩
          have HM := Lib.hid hm
          clear hq hr hqo hro hm
          go_wp2_with fail
          go_roundg (xa % ya)
          case measure => exact HM.out
          case rel => exact ⟨ya, xa % ya, rfl, hnew⟩
        · have hbb : (b1 == 0) = false := by simp [hb0]
          have hLO := Lib.hid (LeapOk.rests (HOK.out hb0))
          clear hb0
          go_wp2_with fail
          refine (any_l (a1 := a1) (b1 := b1) (a2 := a2) (b2 := b2) (t := t)).mono ?_
          rintro en w2 ⟨rfl, hbel2⟩
          have hB2 := Lib.hid (below_trans hbf (below_trans HBA.out hbel2))
          have h52 : At5 w2 wf.heap.size a1 b1 a2 b2 t := by
            unfold At5
            rw [hbel2.block wf.heap.size (by simp)]
            exact HA5.out
          obtain ⟨l0, l1, l2, l3, l4⟩ := h52.cells
          obtain ⟨R1, R2, q1, q2, q3, q4, q5, q6, q7, q8, q9, q10⟩ := hLO.out
          have hC := Lib.hid (leap_apply (t := t) (hHA.out.below hB2.out) (hHB.out.below hB2.out) q5 q6 q7 q8 q9 q10 q2 (Nat.le_of_lt q3))
          have hLE : Hid (R2 ≤ R1 ∧ R1 ≤ ya ∧ R2 < ya) := Lib.hid ⟨q1, q2, q3⟩
          have hGG : Hid (Nat.gcd R1 R2 = Nat.gcd xa ya) := Lib.hid q4
          clear q1 q2 q3 q4 q5 q6 q7 q8 q9 q10 h52
          go_wp2_with fail
          refine hC.out.mono ?_
          rintro en w3 ⟨⟨r, s, rfl, hr, hs, hro, hso⟩, hbel3⟩
          have hnew : Hid (GcdAt w w3 u v r s x y R1 R2) := Lib.hid ⟨hr, hs, hLE.out.1, by rw [hGG.out, hat.out.gcd], Nat.lt_of_le_of_lt (len_digs_mono hLE.out.2.1) hat.out.lb, Nat.lt_of_le_of_lt (len_digs_mono (Nat.le_of_lt hLE.out.2.2)) hat.out.lb,
            own_new hro (below_trans hat.out.bel hB2.out), own_new hso (below_trans hat.out.bel hB2.out), below_trans (below_trans hat.out.bel hB2.out) hbel3⟩
          clear hr hs hro hso
          go_wp2_with fail
          go_roundg R2
          case measure => exact hLE.out.2.2
          case rel => exact ⟨R1, R2, rfl, hnew⟩
  · have hc : ¬ cmpN x y < 0 := by unfold cmpN; rw [if_neg hlt]; split <;> omega
    have HST : ∀ n, Hid (GcdAt w (w.drewN n) u v u v x y x y) := fun n => Lib.hid ⟨HU.out.drewN n, HV.out.drewN n, by omega, rfl, HLX.out, HLY.out, fun b h => Or.inr (Or.inl h), fun b h => Or.inr (Or.inr h), below_drewN (Below.refl _ _) n⟩
    clear hlt
    go_enter Tryz.func98, Tryz.ntmps98
    go_wp2_with fail
    refine (compare_d HU.out HV.out).mono ?_
    rintro en w1 ⟨rfl, n1, rfl⟩
    go_wp2_with fail
    go_loopg [0, 1] y (fun g A B wr => ∃ xa ya : Nat, g = ya ∧ Hid (GcdAt w wr u v A B x y xa ya))
    case atStart => exact ⟨x, y, rfl, HST n1⟩
    case round =>
      obtain ⟨xa, ya, hg, hat⟩ := hrel
      have hg' := hg.symm
      subst hg'
      clear hg
      by_cases hsh : (digs ya).length ≤ 2
      · have hs1 := shortB_true hsh
        have HS := Lib.hid hsh
        clear hsh
        go_wp2_with fail
        refine (short_w hat.out.b).mono ?_
        rintro en w2 ⟨rfl, rfl⟩
        have hHB := Lib.hid hat.out.b
        have hHA := Lib.hid hat.out.a
        by_cases hz : ya = 0
        · have hz1 := zerB_true hz
          have HZ := Lib.hid hz
          clear hz
          go_wp2_with fail
          refine (isZero_w hHB.out).mono ?_
          rintro en w3 ⟨rfl, rfl⟩
          go_wp2_with fail
          go_ret
          refine ⟨⟨u0, rfl, ?_, hat.out.oa⟩, hat.out.bel⟩
          have e : Nat.gcd x y = xa := by rw [← hat.out.gcd, HZ.out, Nat.gcd_zero_right]
          rw [e]; exact hHA.out
        · have hz1 := zerB_false hz
          have hpos : Hid (0 < ya) := Lib.hid (by omega)
          clear hz
          go_wp2_with fail
          refine (isZero_w hHB.out).mono ?_
          rintro en w3 ⟨rfl, rfl⟩
          go_wp2_with fail
          refine (div_w hHA.out hHB.out hpos.out hat.out.la).mono ?_
          rintro en w4 ⟨⟨q, r, rfl, hq, hr, hqo, hro⟩, hbel4⟩
          have HR := Lib.hid hr
          clear hq hr hqo hro
          have hrl : Hid (xa % ya < ya) := Lib.hid (Nat.mod_lt _ hpos.out)
          have hrs : Hid ((digs (xa % ya)).length ≤ 2) := Lib.hid (Nat.le_trans (len_digs_mono (Nat.le_of_lt hrl.out)) HS.out)
          have hyb : ya < 18446744073709551616 := by have := two_lt (ws_digs ya) HS.out; rwa [val_digs] at this
          obtain ⟨rm, hrm⟩ : ∃ rm, rm = xa % ya := ⟨_, rfl⟩
          have HRM := Lib.hid hrm
          rw [← hrm] at HR hrl hrs
          clear hrm
          have hgl : Nat.gcd ya rm < 18446744073709551616 := Nat.lt_of_le_of_lt (Nat.gcd_le_left _ hpos.out) hyb
          obtain ⟨g, hg⟩ : ∃ g, g = Nat.gcd ya rm := ⟨_, rfl⟩
          have HG := Lib.hid hg
          rw [← hg] at hgl
          clear hg
          go_wp2_with fail
          refine (value_d (hHB.out.below hbel4) HS.out).mono ?_
          rintro en w5 ⟨rfl, rfl⟩
          go_wp2_with fail
          refine (value_d HR.out hrs.out).mono ?_
          rintro en w5 ⟨rfl, rfl⟩
          have hC := Lib.hid (gcdUint_w (w := w4) ya rm hyb (by have := hrl.out; omega))
          rw [← HG.out] at hC
          go_wp2_with fail
          refine hC.out.mono ?_
          rintro en w5 ⟨rfl, n5, rfl⟩
          go_wp2_with fail
          refine (fromUint_q g hgl _).mono ?_
          rintro en w6 ⟨⟨r2, rfl, hr2, hro2⟩, hbel6⟩
          go_wp2_with fail
          go_ret
          have e : Nat.gcd x y = g := by rw [HG.out, HRM.out, ← hat.out.gcd, Nat.gcd_comm xa ya, Nat.gcd_rec ya xa, Nat.gcd_comm]
          rw [← e] at hr2
          exact ⟨⟨r2, rfl, hr2, own_new (wr := w4) hro2 (below_trans hat.out.bel hbel4)⟩, below_trans (below_trans hat.out.bel hbel4) (below_undraw hbel6)⟩
      · have hs1 := shortB_false hsh
        have HS := Lib.hid hsh
        clear hsh
        go_wp2_with fail
        refine (short_w hat.out.b).mono ?_
        rintro en w2 ⟨rfl, rfl⟩
        go_wp2_with fail
        refine (findLeap_c rfl rfl hat.out.a hat.out.b (by have := HS.out; omega) hat.out.le).mono ?_
        rintro en wf ⟨⟨a1, b1, a2, b2, t, rfl, hok⟩, hbf⟩
        have HOK := Lib.hid hok
        unfold leapV
        clear hok
        have hyp : Hid (0 < ya) := Lib.hid (by
          rcases Nat.eq_zero_or_pos ya with h | h
          · exfalso; apply HS.out; rw [h, digs_zero]; simp
          · exact h)
        have hHA := Lib.hid hat.out.a
        have hHB := Lib.hid hat.out.b
        have hA5 : At5 (wf.alloc (Obj.cells #[Value.int IntKind.u64 a1, Value.int IntKind.u64 b1, Value.int IntKind.u64 a2, Value.int IntKind.u64 b2, Value.bool t] 135)) wf.heap.size a1 b1 a2 b2 t := heap_alloc_new _ _
        have hbA := (Below.refl wf.heap.size wf).alloc (Nat.le_refl _) (Obj.cells #[Value.int IntKind.u64 a1, Value.int IntKind.u64 b1, Value.int IntKind.u64 a2, Value.int IntKind.u64 b2, Value.bool t] 135)
        have HA5 := Lib.hid hA5
        have HBA := Lib.hid hbA
        clear hA5 hbA
        by_cases hb0 : b1 = 0
        · have hbb : (b1 == 0) = true := by simp [hb0]
          clear hb0
          go_wp2_with fail
          refine (any_l (a1 := a1) (b1 := b1) (a2 := a2) (b2 := b2) (t := t)).mono ?_
          rintro en w2 ⟨rfl, hbel2⟩
          have hB2 := Lib.hid (below_trans hbf (below_trans HBA.out hbel2))
          go_wp2_with fail
          refine (div_w (hHA.out.below hB2.out) (hHB.out.below hB2.out) hyp.out hat.out.la).mono ?_
          rintro en w3 ⟨⟨q, r, rfl, hq, hr, hqo, hro⟩, hbel3⟩
          have hm := Nat.mod_lt xa hyp.out
          have hnew : Hid (GcdAt w w3 u v u1 r x y ya (xa % ya)) := Lib.hid ⟨(hHB.out.below hB2.out).below hbel3, hr, Nat.le_of_lt hm, by rw [← hat.out.gcd, Nat.gcd_comm xa ya, Nat.gcd_rec ya xa, Nat.gcd_comm], hat.out.lb, Nat.lt_of_le_of_lt (len_digs_mono (Nat.le_of_lt hm)) hat.out.lb,
            hat.out.ob, own_div hro hat.out.oa (below_trans hat.out.bel hB2.out), below_trans (below_trans hat.out.bel hB2.out) hbel3⟩
          have HM := Lib.hid hm
          clear hq hr hqo hro hm
          go_wp2_with fail
          go_roundg (xa % ya)
          case measure => exact HM.out
          case rel => exact ⟨ya, xa % ya, rfl, hnew⟩
        · have hbb : (b1 == 0) = false := by simp [hb0]
          have hLO := Lib.hid (LeapOk.rests (HOK.out hb0))
          clear hb0
          go_wp2_with fail
          refine (any_l (a1 := a1) (b1 := b1) (a2 := a2) (b2 := b2) (t := t)).mono ?_
          rintro en w2 ⟨rfl, hbel2⟩
          have hB2 := Lib.hid (below_trans hbf (below_trans HBA.out hbel2))
          have h52 : At5 w2 wf.heap.size a1 b1 a2 b2 t := by
            unfold At5
            rw [hbel2.block wf.heap.size (by simp)]
            exact HA5.out
          obtain ⟨l0, l1, l2, l3, l4⟩ := h52.cells
          obtain ⟨R1, R2, q1, q2, q3, q4, q5, q6, q7, q8, q9, q10⟩ := hLO.out
          have hC := Lib.hid (leap_apply (t := t) (hHA.out.below hB2.out) (hHB.out.below hB2.out) q5 q6 q7 q8 q9 q10 q2 (Nat.le_of_lt q3))
          have hLE : Hid (R2 ≤ R1 ∧ R1 ≤ ya ∧ R2 < ya) := Lib.hid ⟨q1, q2, q3⟩
          have hGG : Hid (Nat.gcd R1 R2 = Nat.gcd xa ya) := Lib.hid q4
          clear q1 q2 q3 q4 q5 q6 q7 q8 q9 q10 h52
          go_wp2_with fail
          refine hC.out.mono ?_
          rintro en w3 ⟨⟨r, s, rfl, hr, hs, hro, hso⟩, hbel3⟩
          have hnew : Hid (GcdAt w w3 u v r s x y R1 R2) := Lib.hid ⟨hr, hs, hLE.out.1, by rw [hGG.out, hat.out.gcd], Nat.lt_of_le_of_lt (len_digs_mono hLE.out.2.1) hat.out.lb, Nat.lt_of_le_of_lt (len_digs_mono (Nat.le_of_lt hLE.out.2.2)) hat.out.lb,
            own_new hro (below_trans hat.out.bel hB2.out), own_new hso (below_trans hat.out.bel hB2.out), below_trans (below_trans hat.out.bel hB2.out) hbel3⟩
          clear hr hs hro hso
          go_wp2_with fail
          go_roundg R2
          case measure => exact hLE.out.2.2
          case rel => exact ⟨R1, R2, rfl, hnew⟩
end Go.Proofs.YtafenoohjcpjgaaGreat

/- Numbers with a sign. -/
namespace Go.Proofs.YtafenoohjcpjgaaGreat
open Go.RowKit

theorem inum : (Tryz.prog.info? 87).map (·.size) = some 2 := by kernel_rfl

/-- A number: its words, and whether it is below 0. -/
def NumV (w : World) (v : Value) (z : Int) : Prop := ∃ u, v = .agg #[u, .bool (decide (z < 0))] ∧ IsW w u (digs z.natAbs)
theorem NumV.below {w w' : World} {v : Value} {z : Int} (h : NumV w v z) (hb : Below w.heap.size w w') : NumV w' v z := by
  obtain ⟨u, rfl, hu⟩ := h
  exact ⟨u, rfl, hu.below hb⟩

set_option maxHeartbeats 400000 in
theorem signed_l {w : World} {v : Value} {x : Nat} (hv : IsW w v (digs x)) (b : Bool) :
    Calls Tryz.prog 114 #[v, .bool b] w fun e w' => e = .returned (.agg #[v, .bool (b && !zerB x)]) ∧ Below w.heap.size w w' := by
  have HV := Lib.hid hv
  obtain ⟨l, hl⟩ : ∃ l, l = digs x := ⟨_, rfl⟩
  rw [← hl] at hv
  obtain ⟨a, cap, hve, -⟩ := hv
  subst hve
  clear hl
  have hB0 : Hid (∀ o, Below w.heap.size w (w.alloc o)) := Lib.hid (fun o => (Below.refl _ _).alloc (Nat.le_refl _) o)
  cases b with
  | false =>
    go_enter Tryz.func114, Tryz.ntmps114
    go_wp2_with fail
    exact bodyPost_ret (results_cell_row rfl _ _ w.heap.size _ _ _ _ rfl (heap_alloc_new _ _) Tryz.underlying87 rfl inum) rfl ⟨by simp, hB0.out _⟩
  | true =>
    go_enter Tryz.func114, Tryz.ntmps114
    go_wp2_with fail
    refine (isZero_w (HV.out.below (hB0.out _))).mono ?_
    rintro en w1 ⟨rfl, rfl⟩
    go_wp2_with fail
    exact bodyPost_ret (results_cell_row rfl _ _ w.heap.size _ _ _ _ rfl (heap_alloc_new _ _) Tryz.underlying87 rfl inum) rfl ⟨by simp, hB0.out _⟩
/-- A number out of its words and its sign. -/
theorem numV_of {w : World} {v : Value} {x : Nat} (hv : IsW w v (digs x)) (b : Bool) : NumV w (.agg #[v, .bool (b && !zerB x)]) (if b then -(x : Int) else x) := by
  refine ⟨v, ?_, ?_⟩
  · congr 3
    cases b with
    | false => simp
    | true => by_cases h : x = 0 <;> simp [zerB, h] <;> omega
  · cases b with
    | false => simpa using hv
    | true => simpa using hv

set_option maxHeartbeats 400000 in
theorem fromInt_w {w : World} (n : Int) (h1 : -9223372036854775808 ≤ n) (h2 : n ≤ 9223372036854775807) :
    Calls Tryz.prog 142 #[.int .i64 n] w fun e w' => (∃ r, e = .returned r ∧ NumV w' r n) ∧ Below w.heap.size w w' := by
  have hB0 : Hid (∀ o, Below w.heap.size w (w.alloc o)) := Lib.hid (fun o => (Below.refl _ _).alloc (Nat.le_refl _) o)
  by_cases hn : n < 0
  · obtain ⟨k, hk⟩ : ∃ k : Nat, n = -(k : Int) := ⟨n.natAbs, by omega⟩
    subst hk
    have w1 : IntKind.u64.wrap (-IntKind.u64.wrap (-(k : Int))) = (k : Int) := by
      rw [IntKind.wrap_u64, IntKind.wrap_u64]; omega
    go_enter Tryz.func142, Tryz.ntmps142
    go_wp2_with fail
    refine (fromUint_q k (by omega) _).mono ?_
    rintro en w2 ⟨⟨r, rfl, hr, hro⟩, hbel⟩
    have HR := Lib.hid hr
    have HNE : Hid (r.ownBlock ≠ some w.heap.size) := Lib.hid (fun e => by have := hro _ e; simp at this; omega)
    obtain ⟨ra, rc, hre, -⟩ := hr
    obtain ⟨rn, hrn⟩ : ∃ rn, rn = (digs k).length := ⟨_, rfl⟩
    rw [← hrn] at hre
    subst hre
    have h0 : w2.heap[w.heap.size]? = some (.cells #[Value.slice none 0 0, Value.bool false] 87 (0, 0)) := by
      rw [hbel.block _ (by simp)]; exact heap_alloc_new _ _
    have HBW := Lib.hid (below_trans (hB0.out _) hbel)
    clear hro hrn
    go_wp2_with ((with_reducible refine at_store ?_); refine wpList_store_var rfl _ _ _ rfl w.heap.size rfl _ rfl _ _ h0 inum rfl (by intro v hv; simp at hv; rcases hv with rfl | rfl <;> rfl) ?_; intro w9 h9 hon9; refine halt ?_)
    refine go_on ?_
    go_wp2_with fail
    exact bodyPost_ret (results_cell_row rfl _ _ w.heap.size _ _ _ _ rfl h9 Tryz.underlying87 rfl inum) rfl ⟨⟨_, rfl, .slice ra rn rc, by rw [decide_eq_true (show -(k : Int) < 0 by omega)], by rw [Int.natAbs_neg, Int.natAbs_natCast]; exact HR.out.only hon9 HNE.out⟩, below_only HBW.out hon9 (Nat.le_refl _)⟩
  · obtain ⟨k, hk⟩ : ∃ k : Nat, n = (k : Int) := ⟨n.natAbs, by omega⟩
    subst hk
    go_enter Tryz.func142, Tryz.ntmps142
    go_wp2_with fail
    refine (fromUint_q k (by omega) _).mono ?_
    rintro en w2 ⟨⟨r, rfl, hr, hro⟩, hbel⟩
    have HR := Lib.hid hr
    have HNE : Hid (r.ownBlock ≠ some w.heap.size) := Lib.hid (fun e => by have := hro _ e; simp at this; omega)
    obtain ⟨ra, rc, hre, -⟩ := hr
    obtain ⟨rn, hrn⟩ : ∃ rn, rn = (digs k).length := ⟨_, rfl⟩
    rw [← hrn] at hre
    subst hre
    have h0 : w2.heap[w.heap.size]? = some (.cells #[Value.slice none 0 0, Value.bool false] 87 (0, 0)) := by
      rw [hbel.block _ (by simp)]; exact heap_alloc_new _ _
    have HBW := Lib.hid (below_trans (hB0.out _) hbel)
    clear hro hrn
    go_wp2_with ((with_reducible refine at_store ?_); refine wpList_store_var rfl _ _ _ rfl w.heap.size rfl _ rfl _ _ h0 inum rfl (by intro v hv; simp at hv; rcases hv with rfl | rfl <;> rfl) ?_; intro w9 h9 hon9; refine halt ?_)
    refine go_on ?_
    go_wp2_with fail
    exact bodyPost_ret (results_cell_row rfl _ _ w.heap.size _ _ _ _ rfl h9 Tryz.underlying87 rfl inum) rfl ⟨⟨_, rfl, .slice ra rn rc, by rw [decide_eq_false (show ¬ (k : Int) < 0 by omega)], by rw [Int.natAbs_natCast]; exact HR.out.only hon9 HNE.out⟩, below_only HBW.out hon9 (Nat.le_refl _)⟩

end Go.Proofs.YtafenoohjcpjgaaGreat

/- Numbers with a sign: products, scaling, shrinking. -/
namespace Go.Proofs.YtafenoohjcpjgaaGreat
open Go.RowKit

theorem frozen_below {w w' : World} {b o : Nat} (hb : Below w.heap.size w w') (hc : (w.cell? ⟨b, o, none⟩).isSome = true) (hf : w.frozen? ⟨b, o, none⟩ = false) : w'.frozen? ⟨b, o, none⟩ = false := by
  rw [hb.frozen (p := ⟨b, o, none⟩)]
  · exact hf
  · show b < w.heap.size
    rcases Nat.lt_or_ge b w.heap.size with h | h
    · exact h
    · simp [World.cell?, Array.getElem?_eq_none h] at hc

theorem IsW.form {w : World} {v : Value} {l : List Nat} (h : IsW w v l) : ∃ a n c, v = .slice a n c := by obtain ⟨a, c, h, -⟩ := h; exact ⟨a, _, c, h⟩

end Go.Proofs.YtafenoohjcpjgaaGreat
