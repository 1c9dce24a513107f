/- Several texts in one: Tf. -/
import Derived.Test.YtafenoohjcpjgaaGreatZ13
import Derived.Deep.CutBlock
import Derived.Deep.DeepCutAuto
import Derived.Deep.Light
/- The reference's words: division. -/
namespace Go.Proofs.YtafenoohjcpjgaaGreat
open Go.RowKit

theorem iparts : (Tryz.prog.info? 147).map (·.size) = some 2 := by kernel_rfl


/-- What a division tells. -/
def PartsPost (w : World) (x y : Nat) (e : Ending) (w' : World) : Prop := (∃ q r, e = .returned (.agg #[q, r]) ∧ IsW w' q (digs (x / y)) ∧ IsW w' r (digs (x % y))) ∧ Below w.heap.size w w'

/-- A block with two slices in it holds no words. -/
theorem two_cells {u d : Value} (hu : ∃ a n c, u = .slice a n c) (hd : ∃ a n c, d = .slice a n c) : ∀ (j k : Nat), (#[u, d] : Array Value)[j]? ≠ some (U k) := by
  obtain ⟨a, n, c, rfl⟩ := hu
  obtain ⟨a', n', c', rfl⟩ := hd
  intro j k h
  match j, h with
  | 0, h => simp [U] at h
  | 1, h => simp [U] at h
  | (j + 2), h => simp at h
theorem two_zero : ∀ (j k : Nat), (#[Value.slice none 0 0, Value.slice none 0 0] : Array Value)[j]? ≠ some (U k) := two_cells ⟨_, _, _, rfl⟩ ⟨_, _, _, rfl⟩
def two3 (w : World) (R : Nat) (u d : Value) : World := (w.setCell ⟨R, 0, none⟩ u).setCell ⟨R, 1, none⟩ d
theorem two3_only (w : World) (R : Nat) (u d : Value) : Only R w (two3 w R u d) := ((Only.refl R w).setCell 0 u).setCell 1 d
theorem two3_heap {w : World} {R : Nat} {u d : Value} {t : TypeId} (hR : w.heap[R]? = some (.cells #[Value.slice none 0 0, Value.slice none 0 0] t (0, 0))) :
    (two3 w R u d).heap[R]? = some (.cells #[u, d] t (0, 0)) :=
  heap_setCell_same _ _ 1 _ _ _ (heap_setCell_same _ _ 0 _ _ _ hR)

/-- The first bit of a word. -/
def hib (x : Nat) : Nat := if x < 2147483648 then 0 else 2147483648
theorem hib_and {x : Nat} (hx : x < 4294967296) : bits .and .u32 (x : Int) 2147483648 = (hib x : Int) := by
  have h := u32_and_nat x 2147483648 hx (by omega)
  have e : x &&& 2147483648 = hib x := by
    rw [show (2147483648 : Nat) = 2 ^ 31 from rfl]
    refine Nat.eq_of_testBit_eq fun i => ?_
    rw [Nat.testBit_and, Nat.testBit_two_pow]
    unfold hib
    by_cases hlt : x < 2147483648
    · rw [if_pos hlt, Nat.zero_testBit]
      by_cases hi : 31 = i
      · subst hi
        rw [Nat.testBit_lt_two_pow (show x < 2 ^ 31 from hlt)]; rfl
      · simp [hi]
    · rw [if_neg hlt, show (2147483648 : Nat) = 2 ^ 31 from rfl, Nat.testBit_two_pow]
      by_cases hi : 31 = i
      · subst hi
        rw [Nat.testBit_eq_decide_div_mod_eq, show (2 : Nat) ^ 31 = 2147483648 from rfl, show x / 2147483648 = 1 by omega]; rfl
      · simp [hi]
  rw [e] at h
  exact h
def topS (x s : Nat) : Nat := x * 2 ^ s
theorem topS_wrap {x s : Nat} (h : topS x s < 4294967296) : IntKind.u32.wrap ((x : Int) * 2 ^ s) = (topS x s : Int) := by
  have e : ((x : Int) * 2 ^ s) = (topS x s : Int) := by unfold topS; simp
  rw [e]; exact IntWalk.u32_in _ (by omega)

/-- What holds at the head of the main loop: the blocks of what is left (U), of the quotient (C), of the result (R); the divisor's slice. -/
structure DivAt (w wr : World) (U C n Q la : Nat) (vv : Value) (mb M0 M Qt : List Nat) (k Y : Nat) : Prop where
  blk : Blk wr U 125 M
  ws : Ws M
  len : M.length = la + 1
  q : Blk wr C 125 Qt
  qw : Ws Qt
  ql : Qt.length = Q
  v : IsW wr vv mb
  bel : Below w.heap.size w wr
  res : wr.heap[w.heap.size]? = some (.cells #[Value.slice none 0 0, Value.slice none 0 0] 147 (0, 0))
  z : ∀ j, k + n ≤ j → nth M j = 0
  lt : pv M k n < Y
  low : ∀ j, j < k → nth M j = nth M0 j
  sum : pv Qt k (Q - k) * Y + pv M k n = pv M0 k (la + 1 - k)

/-- A word of the multiple taken away. -/
theorem tk_step {N M mb : List Nat} {i t g cr br br' d P : Nat} (hN : i + t < N.length) (hsame : nth N (i + t) = nth M (i + t)) (hP : P = mulS (nth mb t) g 0 cr) (hd : d + (lowW P + br) = nth N (i + t) + 4294967296 * br')
    (hv : pv N i t + pv mb 0 t * g = pv M i t + 4294967296 ^ t * (br + cr)) :
    pv (N.set (i + t) d) i (t + 1) + pv mb 0 (t + 1) * g = pv M i (t + 1) + 4294967296 ^ (t + 1) * (br' + P / 4294967296) := by
  have h2 := Nat.mod_add_div P 4294967296
  rw [pv_set _ _ _ _ hN, pv_succ mb, pv_succ M, Nat.zero_add, Nat.pow_succ, ← hsame]
  unfold lowW at hd
  unfold mulS at hP
  generalize P / 4294967296 = q at *
  generalize P % 4294967296 = u at *
  generalize 4294967296 ^ t = p at *
  have e1 : p * (d + (u + br)) = p * (nth N (i + t) + 4294967296 * br') := by rw [hd]
  have e2 : p * (u + 4294967296 * q) = p * (cr + (nth mb t * g + 0)) := by rw [h2, hP]
  grind

set_option maxRecDepth 100000 in
set_option maxHeartbeats 2000000 in
theorem rparts_long {w : World} {u v : Value} {l m : List Nat} {x y : Nat} (hx : l = digs x) (hy : m = digs y) (hu : IsW w u l) (hv : IsW w v m) (h2 : 2 ≤ m.length) (hyx : y ≤ x) (hlb : l.length < 1073741824) :
    Calls Tryz.prog 139 #[u, v] w (PartsPost w x y) := by
  have hle : m.length ≤ l.length := by rw [hx, hy]; exact len_digs_mono hyx
  have hcmp : ¬ cmpN x y < 0 := by unfold cmpN; rw [if_neg (by omega)]; split <;> omega
  have hcd : decide (cmpN x y < 0) = false := by simp; omega
  have HCMP := Lib.hid hcmp
  have HX := Lib.hid hx
  have HY := Lib.hid hy
  have HU := Lib.hid hu
  have HV := Lib.hid hv
  have htop : nth m (m.length - 1) ≠ 0 := nth_last (by rw [hy]; exact norm_digs _) (by intro e; rw [e] at h2; simp at h2)
  have HT := Lib.hid htop
  have htl := ws_nth hv.ws (m.length - 1)
  have HB0 : Hid (∀ o, Below w.heap.size w (w.alloc o)) := Lib.hid (fun o => (Below.refl _ _).alloc (Nat.le_refl _) o)
  have hcell0 := Lib.hid (fun (b off cap : Nat) (he : v = .slice (some ⟨b, off, none⟩) m.length cap) => (he ▸ hv).cell (m.length - 1) (by omega))
  have hO := Lib.hid (fun w' (hb : Below w.heap.size w w') => rorder_d (w := w') (x := x) (y := y) (hx ▸ hu.below hb) (hy ▸ hv.below hb))
  obtain ⟨a, cap, rfl, i1, i2, i3, i4, i5⟩ := hu
  obtain ⟨b, bcap, rfl, k1, k2, k3, k4, k5⟩ := hv
  obtain ⟨bb, boff, rfl, hblt, -⟩ := k4 (by intro e; simp at e; subst e; simp at h2)
  have hm1 : ((m.length : Int) == 1) = false := by simp; omega
  have hyx' := Lib.hid hyx
  clear i3 i4 i5 k3 k4 k5 hx hy htop hcmp hyx
  go_enter Tryz.func139, Tryz.ntmps139
  go_wp2_with fail
  refine (hO.out _ (HB0.out _)).mono ?_
  rintro en w0 ⟨rfl, n0, rfl⟩
  obtain ⟨w1, hw1⟩ : ∃ w1, w1 = (w.alloc (Obj.cells #[Value.slice none 0 0, Value.slice none 0 0] 147)).drewN n0 := ⟨_, rfl⟩
  rw [← hw1]
  have HB1 : Hid (Below w.heap.size w w1) := Lib.hid (by rw [hw1]; exact below_drewN (HB0.out _) n0)
  have HS1 : Hid (w1.heap.size = w.heap.size + 1) := Lib.hid (by rw [hw1]; simp)
  have HR1 : Hid (w1.heap[w.heap.size]? = some (.cells #[Value.slice none 0 0, Value.slice none 0 0] 147 (0, 0))) := Lib.hid (by rw [hw1]; exact heap_alloc_new w _)
  have hcell : w1.cell? ⟨bb, boff + (m.length - 1), none⟩ = some (.int .u32 (nth m (m.length - 1))) := by rw [HB1.out.cell (p := ⟨bb, boff + (m.length - 1), none⟩) hblt]; exact hcell0.out bb boff bcap rfl
  clear hw1 hcell0
  go_wp2_with fail
  go_loop [7] (fun t => ∃ s : Nat, t = .int .u64 s ∧ s < 32 ∧ Hid (topS (nth m (m.length - 1)) s < 4294967296)) (fun t => 32 - (intOf t).toNat)
  case atStart => exact ⟨0, rfl, by omega, Lib.hid (by unfold topS; simpa using htl)⟩
  case round =>
    obtain ⟨s, rfl, hs, hts⟩ := hrel
    have e1 := topS_wrap hts.out
    have e2 := hib_and hts.out
    by_cases hlt : topS (nth m (m.length - 1)) s < 2147483648
    · have hz : ((hib (topS (nth m (m.length - 1)) s) : Int) == 0) = true := by simp [hib, hlt]
      have hs' : s < 31 := by
        rcases Nat.lt_or_ge s 31 with h | h
        · exact h
        · exfalso
          have h1 : 2 ^ 31 ≤ 2 ^ s := Nat.pow_le_pow_right (by omega) h
          have h2 : 1 * 2 ^ s ≤ topS (nth m (m.length - 1)) s := Nat.mul_le_mul_right _ (Nat.pos_of_ne_zero HT.out)
          omega
      have hnx : Hid (topS (nth m (m.length - 1)) (s + 1) < 4294967296) := Lib.hid (by
        have e : topS (nth m (m.length - 1)) (s + 1) = topS (nth m (m.length - 1)) s * 2 := by unfold topS; rw [Nat.pow_succ, Nat.mul_assoc]
        omega)
      clear hlt
      go_wp2_with fail
      go_round
      case rel => exact ⟨s + 1, by go_num, by omega, hnx⟩
      case measure => simp [intOf]; omega
    · have hz : ((hib (topS (nth m (m.length - 1)) s) : Int) == 0) = false := by simp [hib, hlt]
      have hlo : Hid (2147483648 ≤ nth m (m.length - 1) * 2 ^ s) := Lib.hid (by unfold topS at hlt; omega)
      have hhi : Hid (nth m (m.length - 1) * 2 ^ s < 4294967296) := Lib.hid hts.out
      have HN := Lib.hid (divL_norm HY.out (by omega) hlo.out hhi.out)
      clear hlt hlo hhi
      go_wp2_with fail
      clear e1 e2 hz hts
      refine (rshift_l (HV.out.below HB1.out) s hs (by omega)).mono ?_
      rintro en w2 ⟨⟨Mb, rfl, hMb, hMbw, hMbl, hMbv⟩, hbel2, hsz2⟩
      have HSZ2 := Lib.hid hsz2
      have hMt : Hid (Mb.take m.length = digs (y * 2 ^ s)) := Lib.hid (by
        have h9 := digs_prefix hMbw
        rw [hMbv, HY.out, val_digs, HN.out.1] at h9
        rw [HY.out] at h9 ⊢
        exact h9.symm)
      have hIb := hMb.isW_all hMbw (m.length + 1) (by omega) (by omega)
      rw [hMbl] at hIb
      have HIb : Hid (IsW w2 (.slice (some ⟨w1.heap.size, 0, none⟩) m.length (m.length + 1)) (digs (y * 2 ^ s))) := Lib.hid (by
        rw [← hMt.out]; exact hIb.take m.length (m.length + 1) (by omega) (by omega))
      have HB2 := Lib.hid (below_trans HB1.out hbel2)
      clear hMbw hMbl hMbv hsz2 hIb hMb hcell
      go_wp2_with fail
      refine (rshift_l (HU.out.below HB2.out) s hs hlb).mono ?_
      rintro en w3 ⟨⟨M0, rfl, hM0, hM0w, hM0l, hM0v⟩, hbel3, hsz3⟩
      have HM0 := Lib.hid hM0
      have HM0w := Lib.hid hM0w
      have HM0l := Lib.hid hM0l
      have HM0v := Lib.hid hM0v
      have HSZ3 := Lib.hid hsz3
      have HB3 := Lib.hid (below_trans HB2.out hbel3)
      have HIb3 := Lib.hid (HIb.out.below hbel3)
      have HR3 : Hid (w3.heap[w.heap.size]? = some (.cells #[Value.slice none 0 0, Value.slice none 0 0] 147 (0, 0))) := Lib.hid (by
        have q1 := HS1.out
        have q2 := HSZ2.out
        rw [hbel3.block _ (by omega), hbel2.block _ (by omega)]; exact HR1.out)
      clear hM0 hM0w hM0l hM0v hsz3 hbel3 hbel2 HIb
      obtain ⟨Q, hQ⟩ : ∃ Q, Q + m.length = l.length + 1 := ⟨l.length + 1 - m.length, by omega⟩
      go_wp2_with (at_make; refine wpList_make_words' rfl _ _ _ _ rfl us iu32 Q _ _ rfl rfl (by omega) (by omega) (by omega) ?_; intro w4 hb4 hbel4 hs4; refine halt ?_)
      refine go_on ?_
      have hY0 : Hid (0 < y * 2 ^ s) := Lib.hid (by
        have := HN.out.2.2.1
        have h9 : 0 < 4294967296 ^ (m.length - 1) * 2147483648 := Nat.mul_pos (Nat.pow_pos (by omega)) (by omega)
        omega)
      have hst : Hid (pv M0 Q m.length < y * 2 ^ s) := Lib.hid (by
        have h9 := divL_start (x := x) (y := y) (s := s) (la := l.length) (n := m.length) (M0 := M0) (by rw [HM0v.out, HX.out, val_digs]) HM0l.out (by rw [HX.out]; exact lt_of_len_digs x) hs (by omega) hle HN.out.2.2.1
        rwa [show l.length + 1 - m.length = Q by omega] at h9)
      obtain ⟨mb, hmb⟩ : ∃ mb, mb = digs (y * 2 ^ s) := ⟨_, rfl⟩
      have hmbl : Hid (mb.length = m.length) := Lib.hid (by rw [hmb]; exact HN.out.1)
      have hmbt : Hid (2147483648 ≤ nth mb (m.length - 1)) := Lib.hid (by rw [hmb]; exact HN.out.2.1)
      have hmbv : Hid (val mb = y * 2 ^ s) := Lib.hid (by rw [hmb, val_digs])
      have hmbw : Hid (Ws mb) := Lib.hid (by rw [hmb]; exact ws_digs _)
      have HSZ : Hid (w1.heap.size = w.heap.size + 1 ∧ w2.heap.size = w.heap.size + 2 ∧ w3.heap.size = w.heap.size + 3) := Lib.hid ⟨HS1.out, by rw [HSZ2.out, HS1.out], by rw [HSZ3.out, HSZ2.out, HS1.out]⟩
      have HAT : Hid (DivAt w w4 w2.heap.size w3.heap.size m.length Q l.length (.slice (some ⟨w1.heap.size, 0, none⟩) m.length (m.length + 1)) mb M0 M0 (List.replicate Q 0) Q (y * 2 ^ s)) := Lib.hid {
        blk := HM0.out.below hbel4 (by have := HSZ.out; omega)
        ws := HM0w.out
        len := HM0l.out
        q := hb4
        qw := ws_replicate _
        ql := by simp
        v := by rw [hmb]; exact HIb3.out.below hbel4
        bel := below_trans' HB3.out hbel4 (by have := HSZ.out; omega)
        res := by rw [hbel4.block _ (by have := HSZ.out; omega)]; exact HR3.out
        z := fun j hj => nth_out (by have := HM0l.out; omega)
        lt := hst.out
        low := fun _ _ => rfl
        sum := by rw [Nat.sub_self, pv_zero, show l.length + 1 - Q = m.length by omega]; simp }
      obtain ⟨Y, hY⟩ : ∃ Y, Y = y * 2 ^ s := ⟨_, rfl⟩
      have HYY := Lib.hid hY
      rw [← hY] at hY0 hst hmbv HAT
      have hYB : Hid (Y ≤ 4294967296 ^ m.length) := Lib.hid (by rw [hY]; exact Nat.le_of_lt HN.out.2.2.2)
      clear hmb hb4 hbel4 hY HM0 HIb3 HR3 hs4
      go_wp2_with fail
      go_loopg [12] Q (fun k i wr => ∃ (M Qt : List Nat), k ≤ Q ∧ i = .int .i64 ((k : Int) - 1) ∧ Hid (DivAt w wr w2.heap.size w3.heap.size m.length Q l.length (.slice (some ⟨w1.heap.size, 0, none⟩) m.length (m.length + 1)) mb M0 M Qt k Y))
      case atStart => exact ⟨M0, _, Nat.le_refl _, by go_num, HAT⟩
      case round =>
        obtain ⟨M, Qt, hk, rfl, hat⟩ := hrel
        obtain ⟨k, rfl⟩ : ∃ k, k = gk := ⟨_, rfl⟩
        obtain ⟨wo, rfl⟩ : ∃ wo : World, wo = wr := ⟨_, rfl⟩
        by_cases hk0 : 0 < k
        · obtain ⟨i, rfl⟩ : ∃ i, k = i + 1 := ⟨k - 1, by omega⟩
          have hdi : (((i + 1 : Nat) : Int) - 1) = (i : Int) := by omega
          rw [hdi]
          clear hdi hk0
          have hP : ((M.drop i).take (m.length + 1)).length = m.length + 1 := by have := hat.out.len; simp; omega
          have hAB : pv M i (m.length + 1) < 4294967296 * Y := by
            have h1 := pv_head M i m.length
            have h2 := ws_nth hat.out.ws i
            have h4 : pv M (i + 1) m.length + 1 ≤ Y := hat.out.lt
            have h5 := Nat.mul_le_mul_left 4294967296 h4
            rw [Nat.mul_add] at h5
            omega
          have t3 := top3 h2 hP
          have t2 := top2 h2 hmbl.out
          rw [nth_take (by omega), nth_take (by omega), nth_take (by omega), nth_drop, nth_drop, nth_drop] at t3
          obtain ⟨an, han⟩ : ∃ an, an = nth M (i + m.length) := ⟨_, rfl⟩
          obtain ⟨an1, han1⟩ : ∃ an1, an1 = nth M (i + (m.length - 1)) := ⟨_, rfl⟩
          obtain ⟨an2, han2⟩ : ∃ an2, an2 = nth M (i + (m.length - 2)) := ⟨_, rfl⟩
          obtain ⟨f, hf⟩ : ∃ f, f = nth mb (m.length - 1) := ⟨_, rfl⟩
          obtain ⟨sv, hsv⟩ : ∃ sv, sv = nth mb (m.length - 2) := ⟨_, rfl⟩
          have bn : an < 4294967296 := by rw [han]; exact ws_nth hat.out.ws _
          have bn1 : an1 < 4294967296 := by rw [han1]; exact ws_nth hat.out.ws _
          have bn2 : an2 < 4294967296 := by rw [han2]; exact ws_nth hat.out.ws _
          have bf : f < 4294967296 := by rw [hf]; exact ws_nth hmbw.out _
          have bs : sv < 4294967296 := by rw [hsv]; exact ws_nth hmbw.out _
          have bf0 : 2147483648 ≤ f := by rw [hf]; exact hmbt.out
          have c1 := hat.out.blk.cell (i + m.length) (by have := hat.out.len; omega)
          have c2 := hat.out.blk.cell (i + (m.length - 1)) (by have := hat.out.len; omega)
          have c3 := hat.out.blk.cell (i + (m.length - 2)) (by have := hat.out.len; omega)
          have c4 := hat.out.v
          rw [show m.length = mb.length from hmbl.out.symm] at c4
          have c5 := c4.cell (m.length - 1) (by have := hmbl.out; omega)
          have c6 := c4.cell (m.length - 2) (by have := hmbl.out; omega)
          rw [Nat.zero_add] at c5 c6
          rw [← han] at c1 t3
          rw [← han1] at c2 t3
          rw [← han2] at c3 t3
          rw [← hf] at c5 t2
          rw [← hsv] at c6 t2
          have e1 : i + (m.length - 1) = i + m.length - 1 := by omega
          have e2 : i + (m.length - 2) = i + m.length - 2 := by omega
          rw [e1] at c2
          rw [e2] at c3
          have hAP : Hid (pv M i (m.length + 1) = val ((M.drop i).take (m.length + 1))) := Lib.hid rfl
          have T3 := Lib.hid t3
          have T2 := Lib.hid t2
          have HAB := Lib.hid hAB
          have rl3 := Lib.hid (pv_lt (ws_take (ws_drop hat.out.ws i) (m.length + 1)) 0 (m.length - 2))
          have rl2 := Lib.hid (pv_lt hmbw.out 0 (m.length - 2))
          have HANS := Lib.hid (And.intro han (And.intro han1 (And.intro han2 (And.intro hf hsv))))
          clear c4 e1 e2 han han1 han2 hf hsv t3 t2 hAB hP
          have w6 := u64_twoW bn bn1
          have w7 := twoW_lt bn bn1
          have q3 := quoW_wrap (twoW an an1) f w7
          have hquo : quoW (twoW an an1) f < 18446744073709551616 := by
            have h8 := Nat.div_le_self (twoW an an1) f
            unfold quoW
            omega
          have hrem : remW (twoW an an1) f < 4294967296 := by
            have := Nat.mod_lt (twoW an an1) (show 0 < f by omega); unfold remW; omega
          have q2 : (twoW an an1 : Int) % (f : Int) = (remW (twoW an an1) f : Int) := rfl
          have hb0 : Hid (0 < val mb) := Lib.hid (by rw [hmbv.out]; exact hY0.out)
          have hqB : Hid (val ((M.drop i).take (m.length + 1)) / val mb < 4294967296) := Lib.hid ((Nat.div_lt_iff_lt_mul hb0.out).2 (by rw [← hAP.out, hmbv.out]; exact HAB.out))
          have hstart : Hid (GuessAt (val ((M.drop i).take (m.length + 1))) (val mb) (twoW an an1) f (quoW (twoW an an1) f) (remW (twoW an an1) f)) := Lib.hid
            ⟨by unfold quoW remW; rw [Nat.mul_comm]; exact Nat.div_add_mod _ _,
             by
              refine guess_start (a2 := an2) (Bn := 4294967296 ^ (m.length - 2)) ?_ bn2 (by omega) (Nat.pow_pos (by omega)) ?_
              · rw [T3.out, Nat.add_mul _ 1, Nat.one_mul]; have := rl3.out; omega
              · rw [T2.out, Nat.add_mul]; omega⟩
          have hhf : Hid (twoW an an1 ≤ f * 4294967296 + 4294967295) := Lib.hid (by
            have e3 := T3.out
            have e2 := T2.out
            have e1 := rl2.out
            have hA : val ((M.drop i).take (m.length + 1)) < 4294967296 * val mb := by rw [← hAP.out, hmbv.out]; exact HAB.out
            generalize 4294967296 ^ (m.length - 2) = Bn at e3 e2 e1
            have h := first_le e3 e2 e1 bs hA
            unfold twoW; omega)
          go_upto_block 4 with fail
          go_quiet (fail)
          go_upto_block 4 with fail
          clear w6 q3 q2
          go_cut [14] (fun g wr => ∃ gn n : Nat, g = .int .u64 gn ∧ gn < 4294967296 ∧ Hid (pv M i (m.length + 1) / Y ≤ gn ∧ gn ≤ pv M i (m.length + 1) / Y + 1) ∧ wr = wo.drewN n)
          case first =>
            go_wp2_with fail
            go_loopg [14, 15] (quoW (twoW an an1) f) (fun k g r wr => ∃ rn n : Nat, g = .int .u64 k ∧ r = .int .u64 rn ∧ rn < 4294967296 ∧ k < 18446744073709551616 ∧ Hid (GuessAt (val ((M.drop i).take (m.length + 1))) (val mb) (twoW an an1) f k rn) ∧ wr = wo.drewN n)
            case atStart => exact ⟨_, _, rfl, rfl, hrem, hquo, hstart, rfl⟩
            case round =>
              obtain ⟨r, n2, rfl, rfl, hr, hg, hga, rfl⟩ := hrel
              obtain ⟨g, rfl⟩ : ∃ g, g = gk := ⟨_, rfl⟩
              have hfin : Hid (∀ q, q < 4294967296 ∧ val ((M.drop i).take (m.length + 1)) / val mb ≤ q ∧ q ≤ val ((M.drop i).take (m.length + 1)) / val mb + 1 → q < 4294967296 ∧ Hid (pv M i (m.length + 1) / Y ≤ q ∧ q ≤ pv M i (m.length + 1) / Y + 1)) := Lib.hid (fun q h => ⟨h.1, Lib.hid (by rw [hAP.out, ← hmbv.out]; exact h.2)⟩)
              by_cases hbigG : 4294967296 ≤ g
              · have hd : decide ((4294967295 : Int) < (g : Int)) = true := by simp; omega
                have HBG := Lib.hid hbigG
                have hg1 : 1 ≤ g := by omega
                clear hbigG
                have hnext := Lib.hid (hga.out.next (Nat.lt_of_lt_of_le hqB.out HBG.out))
                by_cases hbr : 4294967296 ≤ r + f
                · have hd2 : decide ((4294967295 : Int) < (r : Int) + (f : Int)) = true := by simp; omega
                  have HBR := Lib.hid hbr
                  clear hbr
                  go_wp2_with fail
                  go_quiet (fail)
                  go_wp2_with fail
                  go_meet
                  case rel =>
                    have hf9 := hfin.out (g - 1) (hnext.out.broke HBR.out hhf.out bs bf0 T3.out T2.out rl2.out)
                    exact ⟨g - 1, _, by go_num, hf9.1, hf9.2, rfl⟩
                · have hd2 : decide ((4294967295 : Int) < (r : Int) + (f : Int)) = false := by simp; omega
                  have HBR := Lib.hid hbr
                  have hrf : r + f < 4294967296 := by omega
                  clear hbr
                  go_wp2_with fail
                  go_quiet (fail)
                  go_wp2_with fail
                  go_roundg (g - 1)
                  case measure => omega
                  case rel => exact ⟨r + f, _, by go_num, by go_num, hrf, by omega, hnext, rfl⟩
              · have hd : decide ((4294967295 : Int) < (g : Int)) = false := by simp; omega
                have hg2 : g < 4294967296 := by omega
                have m1 := mulS_wrap1 hg2 bs
                have m2 := u64_twoW hr bn2
                have m3 := u64_shl32 r hr
                clear hbigG
                by_cases hgt : twoW r an2 < mulS g sv 0 0
                · have hd3 : decide (twoW r an2 < mulS g sv 0 0) = true := by simpa using hgt
                  have HGT := Lib.hid hgt
                  have hnext := Lib.hid (hga.out.next (hga.out.down (a2 := an2) (s := sv) (by have h9 := hgt; unfold twoW mulS at h9; omega) T3.out rl3.out T2.out hb0.out))
                  have hg1 : 1 ≤ g := by
                    have h9 := hgt
                    unfold twoW mulS at h9
                    rcases Nat.eq_zero_or_pos g with h0 | h0
                    · subst h0; simp at h9
                    · exact h0
                  clear hgt
                  by_cases hbr : 4294967296 ≤ r + f
                  · have hd2 : decide ((4294967295 : Int) < (r : Int) + (f : Int)) = true := by simp; omega
                    have HBR := Lib.hid hbr
                    clear hbr
                    go_wp2_with fail
                    go_quiet (fail)
                    go_wp2_with fail
                    go_meet
                    case rel =>
                      have hf9 := hfin.out (g - 1) (hnext.out.broke HBR.out hhf.out bs bf0 T3.out T2.out rl2.out)
                      exact ⟨g - 1, _, by go_num, hf9.1, hf9.2, rfl⟩
                  · have hd2 : decide ((4294967295 : Int) < (r : Int) + (f : Int)) = false := by simp; omega
                    have hrf : r + f < 4294967296 := by omega
                    clear hbr
                    go_wp2_with fail
                    go_quiet (fail)
                    go_wp2_with fail
                    go_roundg (g - 1)
                    case measure => omega
                    case rel => exact ⟨r + f, _, by go_num, by go_num, hrf, by omega, hnext, rfl⟩
                · have hd3 : decide (twoW r an2 < mulS g sv 0 0) = false := by simpa using hgt
                  have hfit := Lib.hid (hga.out.fits (a2 := an2) (s := sv) hg2 (by have h9 := hgt; unfold twoW mulS at h9; omega) bf0 T3.out T2.out rl2.out)
                  clear hgt
                  go_wp2_with fail
                  go_quiet (fail)
                  go_wp2_with fail
                  go_meet
                  case rel =>
                    have hf9 := hfin.out g hfit.out
                    exact ⟨g, n2 + nq, rfl, hf9.1, hf9.2, World.drewN_drewN _ _ _⟩
          case rest =>
            obtain ⟨g, n5, rfl, hgB, hG1, rfl⟩ := hcut
            clear T3 T2 HAB rl3 rl2 hquo hrem hb0 hqB hstart hhf w7 bn bn1 bn2 bf bf0 bs c1 c2 c3 c5 c6 HANS hAP
            have hUV : Hid ((Value.slice (some ⟨w1.heap.size, 0, none⟩) m.length (m.length + 1)).ownBlock ≠ some w2.heap.size ∧ (Value.slice (some ⟨w1.heap.size, 0, none⟩) m.length (m.length + 1)).ownBlock ≠ some w3.heap.size ∧ w3.heap.size ≠ w2.heap.size ∧ w.heap.size ≠ w2.heap.size ∧ w.heap.size ≠ w3.heap.size) := Lib.hid (by
              have := HSZ.out
              simp [Value.ownBlock]; omega)
            go_wp2_with fail
            go_loopw [16, 17, 18] (fun c b j wr => ∃ (t cr br : Nat) (N : List Nat), t ≤ m.length + 1 ∧ j = .int .i64 t ∧ c = .int .u64 cr ∧ b = .int .u64 br ∧ br ≤ 1 ∧ cr < 4294967296 ∧ Hid (m.length < t → cr = 0) ∧ Blk wr w2.heap.size 125 N ∧ Hid (Ws N) ∧ Hid (N.length = l.length + 1) ∧ Only w2.heap.size (wo.drewN n5) wr ∧
              Hid (∀ j, (j < i ∨ i + t ≤ j) → nth N j = nth M j) ∧ Hid (pv N i t + pv mb 0 t * g = pv M i t + 4294967296 ^ t * (br + cr))) (fun _ _ j _ => m.length + 1 - (intOf j).toNat)
            case atStart => exact ⟨0, 0, 0, M, Nat.zero_le _, rfl, rfl, rfl, by omega, by omega, Lib.hid (fun _ => rfl), hat.out.blk.drewN n5, Lib.hid hat.out.ws, Lib.hid hat.out.len, Only.refl _ _, Lib.hid (fun _ _ => rfl), Lib.hid (by simp [pv_zero])⟩
            case round =>
              obtain ⟨t, cr, br, N, ht, rfl, rfl, rfl, hbr, hcr, hz, hN, hNw, hNl, hon, hsame, hval⟩ := hrel
              have hvv := Lib.hid ((hat.out.v.drewN n5).only hon hUV.out.1)
              by_cases htn : t < m.length + 1
              · have hx := ws_nth hNw.out (i + t)
                have hcN := hN.cell (i + t) (by have := hNl.out; omega)
                have hfree := hN.free (i + t)
                by_cases htm : t < m.length
                · have c9 := hvv.out
                  rw [show m.length = mb.length from hmbl.out.symm] at c9
                  have c8 := c9.cell t (by have := hmbl.out; omega)
                  rw [Nat.zero_add] at c8
                  have hvt := ws_nth hmbw.out t
                  have p1 : IntKind.u64.wrap ((g : Int) * (nth mb t : Int)) = ((mulS (nth mb t) g 0 0 : Nat) : Int) := by rw [Int.mul_comm]; exact mulS_wrap1 hvt hgB
                  have p2 := mulS_wrap3 hvt hgB (show 0 < 4294967296 by omega) hcr
                  have p3 := mulS_lt hvt hgB (show 0 < 4294967296 by omega) hcr
                  obtain ⟨P, hP⟩ : ∃ P, P = mulS (nth mb t) g 0 cr := ⟨_, rfl⟩
                  rw [← hP] at p2 p3
                  have HP := Lib.hid hP
                  have p4 := lowW_and P p3
                  have hlow : lowW P < 4294967296 := Nat.mod_lt _ (by omega)
                  clear c9 hP
                  by_cases hlt : nth N (i + t) < lowW P + br
                  · have hd : decide ((nth N (i + t) : Int) < (lowW P : Int) + (br : Int)) = true := by simp; omega
                    have hle2 : lowW P + br ≤ nth N (i + t) + 4294967296 := by omega
                    have p5 : bits .and .u64 ((nth N (i + t) : Int) + 4294967296 - ((lowW P : Int) + (br : Int))) 4294967295 = (lowW (nth N (i + t) + 4294967296 - (lowW P + br)) : Int) := lowW_of (by omega) (by omega)
                    have hlw : lowW (nth N (i + t) + 4294967296 - (lowW P + br)) < 4294967296 := Nat.mod_lt _ (by omega)
                    have hst9 := Lib.hid (tk_step (N := N) (M := M) (mb := mb) (i := i) (t := t) (g := g) (cr := cr) (br := br) (br' := 1) (d := lowW (nth N (i + t) + 4294967296 - (lowW P + br))) (by have := hNl.out; omega) (hsame.out _ (by omega)) HP.out (by unfold lowW at hlt hle2 ⊢; omega) hval.out)
                    clear hlt
                    go_wp2_with fail
                    go_roundw
                    case rel => exact ⟨t + 1, P / 4294967296, 1, N.set (i + t) (lowW (nth N (i + t) + 4294967296 - (lowW P + br))), by omega, by go_num, by go_num, rfl, by omega, by omega, Lib.hid (fun h => by omega), hN.setCell (i + t) _ _ (by unfold U; go_num), Lib.hid (ws_set hNw.out _ hlw), Lib.hid (by rw [List.length_set]; exact hNl.out), hon.setCell _ _, Lib.hid (fun j hj => by rw [nth_set_ne _ _ _ _ (by omega)]; exact hsame.out j (by omega)), hst9⟩
                    case measure => simp [intOf]; omega
                  · have hd : decide ((nth N (i + t) : Int) < (lowW P : Int) + (br : Int)) = false := by simp; omega
                    have hle2 : lowW P + br ≤ nth N (i + t) := by omega
                    have p5 : bits .and .u64 ((nth N (i + t) : Int) - ((lowW P : Int) + (br : Int))) 4294967295 = (lowW (nth N (i + t) - (lowW P + br)) : Int) := lowW_of (by omega) (by omega)
                    have hlw : lowW (nth N (i + t) - (lowW P + br)) < 4294967296 := Nat.mod_lt _ (by omega)
                    have hst9 := Lib.hid (tk_step (N := N) (M := M) (mb := mb) (i := i) (t := t) (g := g) (cr := cr) (br := br) (br' := 0) (d := lowW (nth N (i + t) - (lowW P + br))) (by have := hNl.out; omega) (hsame.out _ (by omega)) HP.out (by unfold lowW at hlt hle2 ⊢; omega) hval.out)
                    clear hlt
                    go_wp2_with fail
                    go_roundw
                    case rel => exact ⟨t + 1, P / 4294967296, 0, N.set (i + t) (lowW (nth N (i + t) - (lowW P + br))), by omega, by go_num, by go_num, rfl, by omega, by omega, Lib.hid (fun h => by omega), hN.setCell (i + t) _ _ (by unfold U; go_num), Lib.hid (ws_set hNw.out _ hlw), Lib.hid (by rw [List.length_set]; exact hNl.out), hon.setCell _ _, Lib.hid (fun j hj => by rw [nth_set_ne _ _ _ _ (by omega)]; exact hsame.out j (by omega)), hst9⟩
                    case measure => simp [intOf]; omega
                · obtain rfl : t = m.length := by omega
                  have hP : cr = mulS (nth mb m.length) g 0 cr := by rw [nth_out (by have := hmbl.out; omega)]; unfold mulS; omega
                  have HP := Lib.hid hP
                  have p4 := lowW_and cr (by omega)
                  have hlow : lowW cr < 4294967296 := Nat.mod_lt _ (by omega)
                  clear hP
                  by_cases hlt : nth N (i + m.length) < lowW cr + br
                  · have hd : decide ((nth N (i + m.length) : Int) < (lowW cr : Int) + (br : Int)) = true := by simp; omega
                    have hle2 : lowW cr + br ≤ nth N (i + m.length) + 4294967296 := by omega
                    have p5 : bits .and .u64 ((nth N (i + m.length) : Int) + 4294967296 - ((lowW cr : Int) + (br : Int))) 4294967295 = (lowW (nth N (i + m.length) + 4294967296 - (lowW cr + br)) : Int) := lowW_of (by omega) (by omega)
                    have hlw : lowW (nth N (i + m.length) + 4294967296 - (lowW cr + br)) < 4294967296 := Nat.mod_lt _ (by omega)
                    have hst9 := Lib.hid (tk_step (N := N) (M := M) (mb := mb) (i := i) (t := m.length) (g := g) (cr := cr) (br := br) (br' := 1) (d := lowW (nth N (i + m.length) + 4294967296 - (lowW cr + br))) (by have := hNl.out; omega) (hsame.out _ (by omega)) HP.out (by unfold lowW at hlt hle2 ⊢; omega) hval.out)
                    clear hlt
                    go_wp2_with fail
                    go_roundw
                    case rel => exact ⟨m.length + 1, cr / 4294967296, 1, N.set (i + m.length) (lowW (nth N (i + m.length) + 4294967296 - (lowW cr + br))), by omega, by go_num, by go_num, rfl, by omega, by omega, Lib.hid (fun h => by omega), hN.setCell (i + m.length) _ _ (by unfold U; go_num), Lib.hid (ws_set hNw.out _ hlw), Lib.hid (by rw [List.length_set]; exact hNl.out), hon.setCell _ _, Lib.hid (fun j hj => by rw [nth_set_ne _ _ _ _ (by omega)]; exact hsame.out j (by omega)), hst9⟩
                    case measure => simp [intOf]
                  · have hd : decide ((nth N (i + m.length) : Int) < (lowW cr : Int) + (br : Int)) = false := by simp; omega
                    have hle2 : lowW cr + br ≤ nth N (i + m.length) := by omega
                    have p5 : bits .and .u64 ((nth N (i + m.length) : Int) - ((lowW cr : Int) + (br : Int))) 4294967295 = (lowW (nth N (i + m.length) - (lowW cr + br)) : Int) := lowW_of (by omega) (by omega)
                    have hlw : lowW (nth N (i + m.length) - (lowW cr + br)) < 4294967296 := Nat.mod_lt _ (by omega)
                    have hst9 := Lib.hid (tk_step (N := N) (M := M) (mb := mb) (i := i) (t := m.length) (g := g) (cr := cr) (br := br) (br' := 0) (d := lowW (nth N (i + m.length) - (lowW cr + br))) (by have := hNl.out; omega) (hsame.out _ (by omega)) HP.out (by unfold lowW at hlt hle2 ⊢; omega) hval.out)
                    clear hlt
                    go_wp2_with fail
                    go_roundw
                    case rel => exact ⟨m.length + 1, cr / 4294967296, 0, N.set (i + m.length) (lowW (nth N (i + m.length) - (lowW cr + br))), by omega, by go_num, by go_num, rfl, by omega, by omega, Lib.hid (fun h => by omega), hN.setCell (i + m.length) _ _ (by unfold U; go_num), Lib.hid (ws_set hNw.out _ hlw), Lib.hid (by rw [List.length_set]; exact hNl.out), hon.setCell _ _, Lib.hid (fun j hj => by rw [nth_set_ne _ _ _ _ (by omega)]; exact hsame.out j (by omega)), hst9⟩
                    case measure => simp [intOf]
              · obtain rfl : t = m.length + 1 := by omega
                have hc0 := hz.out (by omega)
                subst hc0
                have hnum : Hid (pv N i (m.length + 1) + Y * g = pv M i (m.length + 1) + 4294967296 ^ (m.length + 1) * br) := Lib.hid (by
                  have h9 := hval.out
                  rw [pv_all (l := mb) (by have := hmbl.out; omega), Nat.add_zero, hmbv.out] at h9
                  exact h9)
                have hfq : ∀ M' : List Nat, pv M' i (m.length + 1) = pv M i (m.length + 1) % Y → (∀ j, (j < i ∨ i + (m.length + 1) ≤ j) → nth M' j = nth M j) →
                    (∀ j, i + m.length ≤ j → nth M' j = 0) ∧ pv M' i m.length < Y ∧ (∀ j, j < i → nth M' j = nth M0 j) ∧ pv (Qt.set i (pv M i (m.length + 1) / Y)) i (Q - i) * Y + pv M' i m.length = pv M0 i (l.length + 1 - i) :=
                  fun M' h1 h2 => divL_step (M := M) (M' := M') (M0 := M0) (Qt := Qt) (i := i) (n := m.length) (N := l.length + 1) (Q := Q) (Y := Y) (A := pv M i (m.length + 1)) rfl (by omega) (by omega) hat.out.ql hYB.out hY0.out h1 h2 hat.out.z hat.out.low hat.out.sum
                have HFQ := Lib.hid hfq
                have hnl := Lib.hid (pv_lt hNw.out i (m.length + 1))
                have hqN := (hat.out.q.drewN n5).only hon hUV.out.2.2.1
                have hbelN := below_only (below_drewN hat.out.bel n5) hon (by have := HSZ.out; omega)
                have HBELN := Lib.hid hbelN
                have hresN : Hid (wr.heap[w.heap.size]? = some (.cells #[Value.slice none 0 0, Value.slice none 0 0] 147 (0, 0))) := Lib.hid ((hon.block _ hUV.out.2.2.2.1).trans hat.out.res)
                clear hfq hz hval hbelN ht hcr
                by_cases hb1 : br = 1
                · have hs1 : Hid (g = pv M i (m.length + 1) / Y + 1 ∧ (pv N i (m.length + 1) + Y) % 4294967296 ^ (m.length + 1) = pv M i (m.length + 1) % Y) := Lib.hid (by
                    have h9 := hnum.out
                    rw [hb1, Nat.mul_one] at h9
                    refine div_high h9 hY0.out hG1.out.2 hnl.out ?_
                    have h8 := Nat.mod_lt (pv M i (m.length + 1)) hY0.out
                    have h7 := hYB.out
                    have h6 : 4294967296 ^ m.length * 1 ≤ 4294967296 ^ m.length * 4294967296 := Nat.mul_le_mul_left _ (by omega)
                    rw [Nat.pow_succ]; omega)
                  have hg1 : 1 ≤ g := by rw [hs1.out.1]; exact Nat.le_add_left _ _
                  have hgq : Hid (pv M i (m.length + 1) / Y = g - 1) := Lib.hid (by rw [hs1.out.1, Nat.add_sub_cancel])
                  have hbb : ((br : Int) == 1) = true := by simp [hb1]
                  clear hb1
                  obtain ⟨wm, rfl⟩ : ∃ wm : World, wm = wr := ⟨_, rfl⟩
                  go_wp2_with fail
                  go_loopw [22, 23] (fun c j wr => ∃ (t mr : Nat) (N2 : List Nat), t ≤ m.length + 1 ∧ j = .int .i64 t ∧ c = .int .u64 mr ∧ mr < 4294967296 ∧ Blk wr w2.heap.size 125 N2 ∧ Hid (Ws N2) ∧ Hid (N2.length = l.length + 1) ∧ Only w2.heap.size wm wr ∧
                    Hid (∀ j, (j < i ∨ i + t ≤ j) → nth N2 j = nth N j) ∧ Hid (pv N2 i t + 4294967296 ^ t * mr = pv N i t + pv mb 0 t)) (fun _ j _ => m.length + 1 - (intOf j).toNat)
                  case atStart => exact ⟨0, 0, N, Nat.zero_le _, rfl, rfl, by omega, hN, hNw, hNl, Only.refl _ _, Lib.hid (fun _ _ => rfl), Lib.hid (by simp [pv_zero])⟩
                  case round =>
                    obtain ⟨t, mr, N2, ht2, rfl, rfl, hmr, hN2, hN2w, hN2l, hon2, hsame2, hval2⟩ := hrel
                    have hvx := Lib.hid (hvv.out.only hon2 hUV.out.1)
                    by_cases htn : t < m.length + 1
                    · have hx := ws_nth hN2w.out (i + t)
                      have hcN2 := hN2.cell (i + t) (by have := hN2l.out; omega)
                      have hfree2 := hN2.free (i + t)
                      have hvt := ws_nth hmbw.out t
                      by_cases htm : t < m.length
                      · have c9 := hvx.out
                        rw [show m.length = mb.length from hmbl.out.symm] at c9
                        have c8 := c9.cell t (by have := hmbl.out; omega)
                        rw [Nat.zero_add] at c8
                        obtain ⟨S, hS⟩ : ∃ S, S = nth N2 (i + t) + mr + nth mb t := ⟨_, rfl⟩
                        have HS := Lib.hid hS
                        have p4 : bits .and .u64 ((nth N2 (i + t) : Int) + (mr : Int) + (nth mb t : Int)) 4294967295 = (lowW S : Int) := lowW_of (by omega) (by omega)
                        have hlow : lowW S < 4294967296 := Nat.mod_lt _ (by omega)
                        have hst9 := Lib.hid (inc_step (L := N) (M := N2) (lb := mb) (off := i) (k := t) (cr := mr) (s := S) (by have := hN2l.out; omega) (by omega) (hsame2.out _ (by omega)) hval2.out)
                        have hdv : Hid (((nth N2 (i + t) : Int) + (mr : Int) + (nth mb t : Int)) / 4294967296 = ((S / 4294967296 : Nat) : Int) ∧ S / 4294967296 < 4294967296) := Lib.hid (by omega)
                        clear c9 hS
                        go_wp2_with fail
                        go_roundw
                        case rel => exact ⟨t + 1, S / 4294967296, N2.set (i + t) (lowW S), by omega, by go_num, by rw [hdv.out.1], hdv.out.2, hN2.setCell (i + t) _ _ (by unfold U; go_num), Lib.hid (ws_set hN2w.out _ hlow), Lib.hid (by rw [List.length_set]; exact hN2l.out), hon2.setCell _ _, Lib.hid (fun j hj => by rw [nth_set_ne _ _ _ _ (by omega)]; exact hsame2.out j (by omega)), hst9⟩
                        case measure => simp [intOf]; omega
                      · obtain rfl : t = m.length := by omega
                        obtain ⟨S, hS⟩ : ∃ S, S = nth N2 (i + m.length) + mr := ⟨_, rfl⟩
                        have HS := Lib.hid hS
                        have p4 : bits .and .u64 ((nth N2 (i + m.length) : Int) + (mr : Int)) 4294967295 = (lowW S : Int) := lowW_of (by omega) (by omega)
                        have hlow : lowW S < 4294967296 := Nat.mod_lt _ (by omega)
                        have hst9 := Lib.hid (inc_step (L := N) (M := N2) (lb := mb) (off := i) (k := m.length) (cr := mr) (s := S) (by have := hN2l.out; omega) (by rw [nth_out (l := mb) (by have := hmbl.out; omega)]; omega) (hsame2.out _ (by omega)) hval2.out)
                        have hdv : Hid (((nth N2 (i + m.length) : Int) + (mr : Int)) / 4294967296 = ((S / 4294967296 : Nat) : Int) ∧ S / 4294967296 < 4294967296) := Lib.hid (by omega)
                        clear hS
                        go_wp2_with fail
                        go_roundw
                        case rel => exact ⟨m.length + 1, S / 4294967296, N2.set (i + m.length) (lowW S), by omega, by go_num, by rw [hdv.out.1], hdv.out.2, hN2.setCell (i + m.length) _ _ (by unfold U; go_num), Lib.hid (ws_set hN2w.out _ hlow), Lib.hid (by rw [List.length_set]; exact hN2l.out), hon2.setCell _ _, Lib.hid (fun j hj => by rw [nth_set_ne _ _ _ _ (by omega)]; exact hsame2.out j (by omega)), hst9⟩
                        case measure => simp [intOf]
                    · obtain rfl : t = m.length + 1 := by omega
                      have hin := Lib.hid (inc_end hN2w.out hval2.out)
                      have hfin := Lib.hid (HFQ.out N2 (by rw [hin.out, hmbv.out]; exact hs1.out.2) (fun j hj => by rw [hsame2.out j hj]; exact hsame.out j hj))
                      have hq2 := hqN.only hon2 hUV.out.2.2.1
                      have hcQ := hq2.cell i (by have := hat.out.ql; omega)
                      have hfree := hq2.free i
                      have hg2 : g - 1 < 4294967296 := by omega
                      have hbelX := Lib.hid (below_only HBELN.out hon2 (by have := HSZ.out; omega))
                      have hresX : Hid (wr.heap[w.heap.size]? = some (.cells #[Value.slice none 0 0, Value.slice none 0 0] 147 (0, 0))) := Lib.hid ((hon2.block _ hUV.out.2.2.2.1).trans hresN.out)
                      go_wp2_with fail
                      go_roundg i
                      case measure => omega
                      case rel =>
                        have hset := (Only.refl w3.heap.size wr).setCell i (Value.int IntKind.u32 ((g : Int) - 1))
                        refine ⟨N2, Qt.set i (pv M i (m.length + 1) / Y), by omega, rfl, Lib.hid ?_⟩
                        exact { blk := hN2.only hset (fun e => hUV.out.2.2.1 e.symm), ws := hN2w.out, len := hN2l.out, q := hq2.setCell i _ _ (by rw [hgq.out]; unfold U; go_num), qw := ws_set hat.out.qw _ (by rw [hgq.out]; exact hg2), ql := by rw [List.length_set]; exact hat.out.ql,
                                v := hvx.out.only hset hUV.out.2.1, bel := below_only hbelX.out hset (by have := HSZ.out; omega), res := (hset.block _ hUV.out.2.2.2.2).trans hresX.out, z := hfin.out.1, lt := hfin.out.2.1, low := hfin.out.2.2.1, sum := hfin.out.2.2.2 }
                · have hb0 : br = 0 := by omega
                  have hbb : ((br : Int) == 1) = false := by simp [hb0]
                  have hs1 : Hid (g = pv M i (m.length + 1) / Y ∧ pv N i (m.length + 1) = pv M i (m.length + 1) % Y) := Lib.hid (by
                    have h9 := hnum.out
                    rw [hb0, Nat.mul_zero, Nat.add_zero] at h9
                    exact div_low h9 hY0.out hG1.out.1 hnl.out)
                  have hgq : Hid (pv M i (m.length + 1) / Y = g) := Lib.hid hs1.out.1.symm
                  have hfin := Lib.hid (HFQ.out N hs1.out.2 hsame.out)
                  have hcQ := hqN.cell i (by have := hat.out.ql; omega)
                  have hfree := hqN.free i
                  clear hb1 hb0
                  go_wp2_with fail
                  go_roundg i
                  case measure => omega
                  case rel =>
                    have hset := (Only.refl w3.heap.size wr).setCell i (Value.int IntKind.u32 (g : Int))
                    refine ⟨N, Qt.set i (pv M i (m.length + 1) / Y), by omega, rfl, Lib.hid ?_⟩
                    exact { blk := hN.only hset (fun e => hUV.out.2.2.1 e.symm), ws := hNw.out, len := hNl.out, q := hqN.setCell i _ _ (by rw [hgq.out]; unfold U; go_num), qw := ws_set hat.out.qw _ (by rw [hgq.out]; exact hgB), ql := by rw [List.length_set]; exact hat.out.ql,
                            v := hvv.out.only hset hUV.out.2.1, bel := below_only HBELN.out hset (by have := HSZ.out; omega), res := (hset.block _ hUV.out.2.2.2.2).trans hresN.out, z := hfin.out.1, lt := hfin.out.2.1, low := hfin.out.2.2.1, sum := hfin.out.2.2.2 }
        · obtain rfl : k = 0 := by omega
          have hqr : Hid (val Qt = x / y ∧ val M = x % y * 2 ^ s) := Lib.hid (by
            have h9 := hat.out.sum
            rw [Nat.sub_zero, Nat.sub_zero, pv_eq_val hat.out.ql, pv_eq_val HM0l.out, HM0v.out, HX.out, val_digs] at h9
            have h8 := hat.out.lt
            have e : pv M 0 m.length = val M := by
              have h7 : val M = pv M 0 (m.length + (l.length + 1 - m.length)) := by rw [pv_eq_val (by have := hat.out.len; omega)]
              rw [h7, pv_add]
              have h6 : pv M (0 + m.length) (l.length + 1 - m.length) = 0 := by
                rw [pv_congr (m := List.replicate 0 0) (fun j _ => by rw [hat.out.z _ (by omega), nth_replicate])]
                exact pv_replicate _ _ _
              rw [h6]; simp
            rw [e] at h8 h9
            rw [HYY.out] at h8 h9
            have hp : 0 < 2 ^ s := Nat.pow_pos (by omega)
            have hYp : 0 < y * 2 ^ s := by rw [← HYY.out]; exact hY0.out
            have hd : x * 2 ^ s / (y * 2 ^ s) = val Qt := by
              rw [← h9, Nat.mul_comm (val Qt), Nat.mul_add_div hYp, Nat.div_eq_of_lt h8, Nat.add_zero]
            have hm : x * 2 ^ s % (y * 2 ^ s) = val M := by
              rw [← h9, Nat.mul_comm (val Qt), Nat.mul_add_mod, Nat.mod_eq_of_lt h8]
            rw [Nat.mul_div_mul_right _ _ hp] at hd
            rw [Nat.mul_mod_mul_right] at hm
            exact ⟨hd.symm, hm.symm⟩)
          have hIq := hat.out.q.isW_all hat.out.qw Q (by have := hat.out.ql; omega) (by have := hat.out.ql; omega)
          rw [hat.out.ql] at hIq
          have hIr := hat.out.blk.isW_all hat.out.ws (l.length + 1) (by have := hat.out.len; omega) (by have := hat.out.len; omega)
          rw [hat.out.len] at hIr
          have HIQ := Lib.hid hIq
          have HIR := Lib.hid hIr
          clear hIq hIr
          go_wp2_with fail
          refine (rtrim_d HIQ.out hqr.out.1).mono ?_
          rintro en w6 ⟨⟨q, rfl, hq, hqo⟩, rfl⟩
          obtain ⟨qa, qn, qc, hqe⟩ := hq.form
          subst hqe
          have HQV : Hid (IsW wo (Value.slice qa qn qc) (digs (x / y))) := Lib.hid hq
          clear hq hqo
          go_wp2_with fail
          refine (rback_l HIR.out s hs).mono ?_
          rintro en w7 ⟨⟨r, rfl, hr, hro⟩, hbel7⟩
          obtain ⟨ra, rn, rc, hre⟩ := hr.form
          subst hre
          rw [hqr.out.2, Nat.mul_div_cancel _ (Nat.pow_pos (by omega))] at hr
          have HRV := Lib.hid hr
          have hR7 : w7.heap[w.heap.size]? = some (.cells #[Value.slice none 0 0, Value.slice none 0 0] 147 (0, 0)) := (hbel7.block _ (lt_of_block hat.out.res)).trans hat.out.res
          have r0 : w7.cell? ⟨w.heap.size, 0, none⟩ = some (Value.slice none 0 0) := by rw [cell_of_row _ _ _ _ _ _ hR7]; rfl
          have r1 : w7.cell? ⟨w.heap.size, 1, none⟩ = some (Value.slice none 0 0) := by rw [cell_of_row _ _ _ _ _ _ hR7]; rfl
          have f0 := frozen_of_row _ _ 0 _ _ hR7
          have f1 := frozen_of_row _ _ 1 _ _ hR7
          have HR7 := Lib.hid hR7
          have HQ7 := Lib.hid (HQV.out.below hbel7)
          have HB7 := Lib.hid (below_trans hat.out.bel hbel7)
          clear hR7 hr hro hbel7
          go_wp2_with fail
          exact bodyPost_ret (results_cell_row rfl _ _ w.heap.size _ _ _ _ rfl (two3_heap HR7.out) Tryz.underlying147 rfl iparts) rfl ⟨⟨_, _, rfl, HQ7.out.other HR7.out two_zero (two3_only _ _ _ _), HRV.out.other HR7.out two_zero (two3_only _ _ _ _)⟩, below_only HB7.out (two3_only _ _ _ _) (by omega)⟩
end Go.Proofs.YtafenoohjcpjgaaGreat
