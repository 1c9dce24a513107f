/- Several texts in one: Wl, Wm. -/
import Derived.Test.YtafenoohjcpjgaaGreatZ4
/- Long division. -/
namespace Go.Proofs.YtafenoohjcpjgaaGreat
open Go.RowKit

theorem div_low {A Y g p P : Nat} (hp : p + Y * g = A) (hY : 0 < Y) (hq : A / Y ≤ g) (_h : p < P) : g = A / Y ∧ p = A % Y := by
  have h1 : g ≤ A / Y := (Nat.le_div_iff_mul_le hY).2 (by rw [Nat.mul_comm]; omega)
  have h2 : g = A / Y := by
    generalize A / Y = q at *
    omega
  refine ⟨h2, ?_⟩
  have := Nat.div_add_mod A Y
  rw [← h2] at this
  omega

theorem div_high {A Y g p P : Nat} (hp : p + Y * g = A + P) (hY : 0 < Y) (hq : g ≤ A / Y + 1) (hpP : p < P) (hAP : A % Y < P) : g = A / Y + 1 ∧ (p + Y) % P = A % Y := by
  have h0 := Nat.div_add_mod A Y
  have hlt := Nat.mod_lt A hY
  have h2 : g = A / Y + 1 := by
    generalize A / Y = q at *
    generalize A % Y = r at *
    rcases Nat.lt_or_ge g (q + 1) with h | h
    · have := Nat.mul_le_mul_left Y (Nat.le_of_lt_succ h)
      omega
    · omega
  refine ⟨h2, ?_⟩
  rw [h2, Nat.mul_add, Nat.mul_one] at hp
  have : p + Y = A % Y + P := by omega
  rw [this, Nat.add_mod_right, Nat.mod_eq_of_lt hAP]

theorem divL_step {M M' M0 Qt : List Nat} {i n N Q Y A : Nat} (hA : A = pv M i (n + 1)) (hN : N = Q + n) (hi : i < Q) (hQ : Qt.length = Q) (hY : Y ≤ 4294967296 ^ n) (hY0 : 0 < Y)
    (hM' : pv M' i (n + 1) = A % Y) (hout : ∀ j, (j < i ∨ i + (n + 1) ≤ j) → nth M' j = nth M j) (hz : ∀ j, i + 1 + n ≤ j → nth M j = 0) (hlow : ∀ j, j < i + 1 → nth M j = nth M0 j)
    (hsum : pv Qt (i + 1) (Q - (i + 1)) * Y + pv M (i + 1) n = pv M0 (i + 1) (N - (i + 1))) :
    (∀ j, i + n ≤ j → nth M' j = 0) ∧ pv M' i n < Y ∧ (∀ j, j < i → nth M' j = nth M0 j) ∧ pv (Qt.set i (A / Y)) i (Q - i) * Y + pv M' i n = pv M0 i (N - i) := by
  have hlt := Nat.mod_lt A hY0
  have e1 := pv_succ M' i n
  have hp : 0 < 4294967296 ^ n := Nat.pow_pos (by omega)
  have htop : nth M' (i + n) = 0 := by
    rcases Nat.eq_zero_or_pos (nth M' (i + n)) with h | h
    · exact h
    · have := Nat.mul_le_mul_left (4294967296 ^ n) h
      rw [Nat.mul_one] at this
      omega
  have hn : pv M' i n = A % Y := by rw [← hM', e1, htop]; simp
  refine ⟨fun j hj => ?_, by omega, fun j hj => by rw [hout j (Or.inl hj)]; exact hlow j (by omega), ?_⟩
  · rcases Nat.lt_or_ge (i + n) j with h | h
    · rw [hout j (Or.inr (by omega))]; exact hz j (by omega)
    · rw [show j = i + n by omega]; exact htop
  · rw [show Q - i = (Q - (i + 1)) + 1 by omega, show N - i = (N - (i + 1)) + 1 by omega, pv_head, pv_head M0, nth_set_self _ _ _ (by omega), pv_congr (m := Qt) (fun j _ => nth_set_ne _ _ _ _ (by omega)), hn, ← hsum, ← hlow i (by omega)]
    have e2 : A = nth M i + 4294967296 * pv M (i + 1) n := by rw [hA, pv_head]
    have h0 := Nat.div_add_mod A Y
    generalize A / Y = q at *
    generalize A % Y = r at *
    grind

theorem divL_start {M0 : List Nat} {x y s la n : Nat} (hv : val M0 = x * 2 ^ s) (hlen : M0.length = la + 1) (hx : x < 4294967296 ^ la) (hs : s < 32) (hn : 0 < n) (hN : n ≤ la) (hY : 4294967296 ^ (n - 1) * 2147483648 ≤ y * 2 ^ s) : pv M0 (la + 1 - n) n < y * 2 ^ s := by
  have e : val M0 = pv M0 0 (la + 1 - n) + 4294967296 ^ (la + 1 - n) * pv M0 (la + 1 - n) n := by
    rw [← pv_eq_val (k := (la + 1 - n) + n) (by omega), pv_add, Nat.zero_add]
  refine Nat.lt_of_lt_of_le ?_ hY
  apply Nat.lt_of_mul_lt_mul_left (a := 4294967296 ^ (la + 1 - n))
  have e2 : 4294967296 ^ (la + 1 - n) * (4294967296 ^ (n - 1) * 2147483648) = 4294967296 ^ la * 2147483648 := by
    rw [← Nat.mul_assoc, ← Nat.pow_add, show la + 1 - n + (n - 1) = la by omega]
  rw [e2]
  have h1 : x * 2 ^ s < 4294967296 ^ la * 2147483648 := by
    have h2 : 2 ^ s ≤ 2 ^ 31 := Nat.pow_le_pow_right (by omega) (by omega)
    have h3 : x * 2 ^ s < 4294967296 ^ la * 2 ^ s := Nat.mul_lt_mul_of_pos_right hx (Nat.pow_pos (by omega))
    exact Nat.lt_of_lt_of_le h3 (Nat.mul_le_mul_left _ h2)
  omega
/-- The divisor, shifted till its first bit is set: as many words as before. -/
theorem divL_norm {y s : Nat} {m : List Nat} (hm : m = digs y) (h0 : 0 < m.length) (hlo : 2147483648 ≤ nth m (m.length - 1) * 2 ^ s) (hhi : nth m (m.length - 1) * 2 ^ s < 4294967296) :
    (digs (y * 2 ^ s)).length = m.length ∧ 2147483648 ≤ nth (digs (y * 2 ^ s)) (m.length - 1) ∧ 4294967296 ^ (m.length - 1) * 2147483648 ≤ y * 2 ^ s ∧ y * 2 ^ s < 4294967296 ^ m.length := by
  have e : val m = pv m 0 (m.length - 1) + 4294967296 ^ (m.length - 1) * nth m (m.length - 1) := by
    have := pv_succ m 0 (m.length - 1)
    rw [Nat.sub_add_cancel h0, Nat.zero_add, pv_eq_val rfl] at this
    exact this
  have hy : val m = y := by rw [hm, val_digs]
  have hl := pv_lt (l := m) (by rw [hm]; exact ws_digs _) 0 (m.length - 1)
  rw [hy] at e
  have h1 : 4294967296 ^ (m.length - 1) * 2147483648 ≤ y * 2 ^ s := by
    have h2 := Nat.mul_le_mul_left (4294967296 ^ (m.length - 1)) hlo
    have h3 : 4294967296 ^ (m.length - 1) * (nth m (m.length - 1) * 2 ^ s) ≤ y * 2 ^ s := by
      rw [← Nat.mul_assoc]; exact Nat.mul_le_mul_right _ (by omega)
    omega
  have h4 : y * 2 ^ s < 4294967296 ^ m.length := by
    have h5 : y + 1 ≤ 4294967296 ^ (m.length - 1) * (nth m (m.length - 1) + 1) := by rw [Nat.mul_add, Nat.mul_one]; omega
    have h6 : 4294967296 ^ (m.length - 1) * ((nth m (m.length - 1) + 1) * 2 ^ s) ≤ 4294967296 ^ (m.length - 1) * 4294967296 := by
      refine Nat.mul_le_mul_left _ ?_
      have hs : s < 32 := by
        rcases Nat.lt_or_ge s 32 with h | h
        · exact h
        · exfalso
          have h7 : 2 ^ 32 ≤ 2 ^ s := Nat.pow_le_pow_right (by omega) h
          have h8 : 0 < nth m (m.length - 1) := by
            rcases Nat.eq_zero_or_pos (nth m (m.length - 1)) with h9 | h9
            · rw [h9] at hlo; simp at hlo
            · exact h9
          have := Nat.mul_le_mul h8 h7
          omega
      have hd : 2 ^ s ∣ 4294967296 := ⟨2 ^ (32 - s), by rw [← Nat.pow_add, show s + (32 - s) = 32 by omega]⟩
      obtain ⟨c, hc⟩ := hd
      have h9 : nth m (m.length - 1) < c := by
        apply Nat.lt_of_mul_lt_mul_right (a := 2 ^ s)
        rw [Nat.mul_comm c, ← hc]; exact hhi
      rw [hc, Nat.mul_comm (2 ^ s) c]
      exact Nat.mul_le_mul_right _ h9
    have h7 : 4294967296 ^ m.length = 4294967296 ^ (m.length - 1) * 4294967296 := by rw [← Nat.pow_succ]; congr 1; omega
    have h8 := Nat.mul_le_mul_right (2 ^ s) h5
    rw [Nat.add_mul, Nat.mul_assoc] at h8
    have h10 : 0 < 2 ^ s := Nat.pow_pos (by omega)
    rw [h7]; omega
  have hlen : (digs (y * 2 ^ s)).length = m.length := by
    have h5 := len_digs_le.2 h4
    rcases Nat.lt_or_ge (digs (y * 2 ^ s)).length m.length with h | h
    · exfalso
      have h6 := len_digs_le.1 (show (digs (y * 2 ^ s)).length ≤ m.length - 1 by omega)
      have h7 : 4294967296 ^ (m.length - 1) * 1 ≤ 4294967296 ^ (m.length - 1) * 2147483648 := Nat.mul_le_mul_left _ (by omega)
      omega
    · omega
  refine ⟨hlen, ?_, h1, h4⟩
  have e2 : y * 2 ^ s = pv (digs (y * 2 ^ s)) 0 (m.length - 1) + 4294967296 ^ (m.length - 1) * nth (digs (y * 2 ^ s)) (m.length - 1) := by
    have := pv_succ (digs (y * 2 ^ s)) 0 (m.length - 1)
    rw [Nat.sub_add_cancel h0, Nat.zero_add, pv_eq_val hlen, val_digs] at this
    exact this
  have hl2 := pv_lt (ws_digs (y * 2 ^ s)) 0 (m.length - 1)
  rcases Nat.lt_or_ge (nth (digs (y * 2 ^ s)) (m.length - 1)) 2147483648 with h | h
  · exfalso
    have h3 : 4294967296 ^ (m.length - 1) * (nth (digs (y * 2 ^ s)) (m.length - 1) + 1) ≤ 4294967296 ^ (m.length - 1) * 2147483648 := Nat.mul_le_mul_left _ h
    rw [Nat.mul_add, Nat.mul_one] at h3
    omega
  · exact h

set_option maxRecDepth 100000 in
set_option maxHeartbeats 1000000 in
theorem divLong_c {w : World} {u v : Value} {l m : List Nat} {x y : Nat} (hx : l = digs x) (hy : m = digs y) (hu : IsW w u l) (hv : IsW w v m) (h2 : 2 ≤ m.length) (hle : m.length ≤ l.length) (hlb : l.length < 1073741824) :
    Calls Tryz.prog 151 #[u, v] w fun e w' => (∃ q r, e = .returned (.tuple #[q, r]) ∧ IsW w' q (digs (x / y)) ∧ IsW w' r (digs (x % y)) ∧ (∀ b, q.ownBlock = some b → w.heap.size ≤ b) ∧ (∀ b, r.ownBlock = some b → w.heap.size ≤ b)) ∧ Below w.heap.size w w' := by
  have HX := Lib.hid hx
  have HY := Lib.hid hy
  have HU := Lib.hid hu
  have HV := Lib.hid hv
  have htop : nth m (m.length - 1) ≠ 0 := nth_last (by rw [hy]; exact norm_digs _) (by intro e; rw [e] at h2; simp at h2)
  have HT := Lib.hid htop
  obtain ⟨a, cap, rfl, i1, i2, i3, i4, i5⟩ := hu
  obtain ⟨b, bcap, rfl, k1, k2, k3, k4, k5⟩ := hv
  clear i3 i4 i5 k3 k4 k5 hx hy htop
  go_enter Tryz.func151, Tryz.ntmps151
  go_wp2_with fail
  refine (leadingZeros_l HV.out (by omega) HT.out).mono ?_
  rintro en w0 ⟨⟨s, rfl, hs, hlo, hhi⟩, rfl⟩
  have HN := Lib.hid (divL_norm HY.out (by omega) hlo hhi)
  clear hlo hhi
  go_wp2_with fail
  refine (shiftLeft_l HU.out s hs hlb).mono ?_
  rintro en w1 ⟨⟨M0, rfl, hM0, hM0w, hM0l, hM0v⟩, hbel1, hsz1⟩
  have HM0w := Lib.hid hM0w
  have HM0l := Lib.hid hM0l
  have HM0v := Lib.hid hM0v
  have HSZ1 := Lib.hid hsz1
  clear hM0w hM0l hM0v hsz1
  go_wp2_with fail
  refine (shiftLeft_l (HV.out.below hbel1) s hs (by omega)).mono ?_
  rintro en w2 ⟨⟨Mb, rfl, hMb, hMbw, hMbl, hMbv⟩, hbel2, hsz2⟩
  have HSZ2 := Lib.hid hsz2
  have hIb := hMb.isW_all hMbw (m.length + 1) (by omega) (by omega)
  rw [hMbl] at hIb
  have HIb := Lib.hid hIb
  have HMbv : Hid (val Mb = y * 2 ^ s) := Lib.hid (by rw [hMbv, HY.out, val_digs])
  clear hMbw hMbl hMbv hsz2 hIb
  go_wp2_with fail
  refine (trim_d HIb.out HMbv.out).mono ?_
  rintro en w2' ⟨⟨bv, rfl, hbv, hbown⟩, rfl⟩
  obtain ⟨mb, hmb⟩ : ∃ mb, mb = digs (y * 2 ^ s) := ⟨_, rfl⟩
  have hmbl : mb.length = m.length := by rw [hmb]; exact HN.out.1
  have hmbt : 2147483648 ≤ nth mb (m.length - 1) := by rw [hmb]; exact HN.out.2.1
  have hmbv : Hid (val mb = y * 2 ^ s) := Lib.hid (by rw [hmb, val_digs])
  rw [← hmb] at hbv
  have hB1 : Hid (bv.ownBlock ≠ some w.heap.size) := Lib.hid (fun e => by
    have h := hbown _ e
    simp [Value.ownBlock] at h
    have := HSZ1.out; omega)
  have hB3 : Hid (∀ b, bv.ownBlock = some b → b = w1.heap.size) := Lib.hid (fun b e => by
    have h := hbown _ e
    simpa [Value.ownBlock, eq_comm] using h)
  have HBV := Lib.hid hbv
  obtain ⟨ba, bc, hbe⟩ : ∃ ba bc, bv = .slice ba m.length bc := by obtain ⟨ba, bc, hbe, -⟩ := hbv; exact ⟨ba, bc, by rw [hbe, hmbl]⟩
  subst hbe
  have HMBL := Lib.hid hmbl
  clear hbv hbown hmb hmbl
  have hb1_2 := hM0.below hbel2 (by have := HSZ1.out; omega)
  have hbel12 := below_trans hbel1 hbel2
  obtain ⟨Q, hQ⟩ : ∃ Q, Q + m.length = l.length + 1 := ⟨l.length + 1 - m.length, by omega⟩
  go_wp2_with (at_make; refine wpList_make_words' rfl _ _ _ _ rfl uw iu32 Q _ _ rfl rfl (by omega) (by omega) (by omega) ?_; intro w3 hb3 hbel3 hs3; refine halt ?_)
  refine go_on ?_
  have hY0 : Hid (0 < y * 2 ^ s) := Lib.hid (by
    have := HN.out.2.2.1
    have h9 : 0 < 4294967296 ^ (m.length - 1) * 2147483648 := Nat.mul_pos (Nat.pow_pos (by omega)) (by omega)
    omega)
  have hst : Hid (pv M0 Q m.length < y * 2 ^ s) := Lib.hid (by
    have h9 := divL_start (x := x) (y := y) (s := s) (la := l.length) (n := m.length) (M0 := M0) (by rw [HM0v.out, HX.out, val_digs]) HM0l.out (by rw [HX.out]; exact lt_of_len_digs x) hs (by omega) hle HN.out.2.2.1
    rwa [show l.length + 1 - m.length = Q by omega] at h9)
  have hIb3 := HBV.out.below hbel3
  have HIb3 := Lib.hid hIb3
  have hQB := Lib.hid hb3.lt
  have h12 : Hid (w1.heap.size < w2.heap.size ∧ w.heap.size < w1.heap.size) := Lib.hid ⟨by have := HSZ2.out; omega, by have := HSZ1.out; omega⟩
  have HM03 := hb1_2.below hbel3 (by have := h12.out; omega)
  clear HBV hIb3 HIb hMb hM0 hb1_2
  go_wp2_with fail
  go_loopw [10] (fun i wr => ∃ (k : Nat) (M Qt : List Nat), k ≤ Q ∧ i = .int .i64 ((k : Int) - 1) ∧ Blk wr w.heap.size 125 M ∧ Hid (Ws M) ∧ Hid (M.length = l.length + 1) ∧ Blk wr w2.heap.size 125 Qt ∧ Hid (Ws Qt) ∧ Hid (Qt.length = Q) ∧
      Hid (IsW wr (.slice ba m.length bc) mb) ∧ Below w.heap.size w wr ∧ Hid (∀ j, k + m.length ≤ j → nth M j = 0) ∧ Hid (pv M k m.length < y * 2 ^ s) ∧ Hid (∀ j, j < k → nth M j = nth M0 j) ∧
      Hid (pv Qt k (Q - k) * (y * 2 ^ s) + pv M k m.length = pv M0 k (l.length + 1 - k))) (fun i _ => (intOf i + 1).toNat)
  case atStart => exact ⟨Q, M0, _, Nat.le_refl _, by go_num, HM03, HM0w, HM0l, hb3, Lib.hid (ws_replicate _), Lib.hid (by simp), HIb3, below_trans' hbel12 hbel3 (by have := h12.out; omega), Lib.hid (fun j hj => nth_out (by have := HM0l.out; omega)), hst, Lib.hid (fun _ _ => rfl),
    Lib.hid (by rw [Nat.sub_self, pv_zero, show l.length + 1 - Q = m.length by omega]; simp)⟩
  case round =>
    obtain ⟨k, M, Qt, hk, rfl, hM, hMw, hMl, hQt, hQtw, hQtl, hbv, hon, hz, hlt, hlow, hsum⟩ := hrel
    obtain ⟨wo, rfl⟩ : ∃ wo : World, wo = wr := ⟨_, rfl⟩
    by_cases hk0 : 0 < k
    · obtain ⟨i, rfl⟩ : ∃ i, k = i + 1 := ⟨k - 1, by omega⟩
      have hdi : (((i + 1 : Nat) : Int) - 1) = (i : Int) := by omega
      rw [hdi]
      clear hdi hk0
      go_wp2_with fail
      rw [show i + m.length + 1 - i = m.length + 1 by omega]
      have hNQ : l.length + 1 = Q + m.length := by omega
      have HNQ := Lib.hid hNQ
      clear hNQ
      obtain ⟨A, hA⟩ : ∃ A, A = pv M i (m.length + 1) := ⟨_, rfl⟩
      have HA := Lib.hid hA
      have hAB : Hid (A < 4294967296 * (y * 2 ^ s)) := Lib.hid (by
        have h1 := pv_head M i m.length
        have h2 := ws_nth hMw.out i
        have h3 := hlt.out
        rw [← hA] at h1
        have h4 : pv M (i + 1) m.length + 1 ≤ y * 2 ^ s := h3
        have h5 := Nat.mul_le_mul_left 4294967296 h4
        rw [Nat.mul_add] at h5
        omega)
      have hPA := hM.isW hMw.out i (m.length + 1) (m.length + 1) (by have := hMl.out; omega) (Nat.le_refl _) (by omega)
      have hPl : ((M.drop i).take (m.length + 1)).length = m.length + 1 := by have := hMl.out; simp; omega
      have hGu := Lib.hid (guess_w hPA hbv.out h2 hPl HMBL.out hmbt (by rw [hmbv.out]; show pv M i (m.length + 1) < _; rw [← hA]; exact hAB.out))
      clear hA hPA hPl
      refine hGu.out.mono ?_
      rintro en wg ⟨⟨g, rfl, hgB, hg1, hg2⟩, ng, rfl⟩
      have hG1 : Hid (A / (y * 2 ^ s) ≤ g ∧ g ≤ A / (y * 2 ^ s) + 1) := Lib.hid (by
        have e : val ((M.drop i).take (m.length + 1)) = A := HA.out.symm
        rw [e, hmbv.out] at hg1 hg2
        exact ⟨hg1, hg2⟩)
      clear hg1 hg2 hGu
      go_wp2_with fail
      refine (takeTimes_w (hM.drewN ng) hMw.out (by have := hMl.out; omega) (by have := hMl.out; omega) (hbv.out.drewN ng) (fun _ => hB1.out) hgB (by have := HMBL.out; omega)).mono ?_
      rintro en w5 ⟨L', br, rfl, hbr, hL', hL'w, hL'l, hon5, hout5, hval5⟩
      have HL'w := Lib.hid hL'w
      have HL'l := Lib.hid hL'l
      have HO5 := Lib.hid hout5
      have HV5 : Hid (pv L' i (m.length + 1) + y * 2 ^ s * g = A + 4294967296 ^ (m.length + 1) * br) := Lib.hid (by rw [hmbv.out] at hval5; rw [HA.out]; exact hval5)
      have hLlt := Lib.hid (pv_lt hL'w i (m.length + 1))
      have hQt5 := (hQt.drewN ng).only hon5 (by have := h12.out; omega)
      have hbv5 := Lib.hid ((hbv.out.drewN ng).only hon5 hB1.out)
      have hbel5 := below_only (below_drewN hon ng) hon5 (Nat.le_refl _)
      have hYn : Hid (y * 2 ^ s ≤ 4294967296 ^ m.length) := Lib.hid (Nat.le_of_lt HN.out.2.2.2)
      clear hL'w hL'l hout5 hval5 hon5
      by_cases hbr1 : br = 1
      · have hbb : (br == 1) = true := by simp [hbr1]
        have hs1 : Hid (g = A / (y * 2 ^ s) + 1 ∧ (pv L' i (m.length + 1) + y * 2 ^ s) % 4294967296 ^ (m.length + 1) = A % (y * 2 ^ s)) := Lib.hid (by
          have h9 := HV5.out
          rw [hbr1, Nat.mul_one] at h9
          refine div_high h9 hY0.out hG1.out.2 hLlt.out ?_
          have h8 := Nat.mod_lt A hY0.out
          have h7 := hYn.out
          have h6 : 4294967296 ^ m.length * 1 ≤ 4294967296 ^ m.length * 4294967296 := Nat.mul_le_mul_left _ (by omega)
          rw [Nat.pow_succ]; omega)
        have hg1 : 1 ≤ g := by rw [hs1.out.1]; exact Nat.le_add_left _ _
        have hgq : Hid (A / (y * 2 ^ s) = g - 1) := Lib.hid (by rw [hs1.out.1, Nat.add_sub_cancel])
        clear hbr1
        go_wp2_with fail
        refine (increase_w hL' HL'w.out (by have := HL'l.out; have := hMl.out; omega) (by have := HL'l.out; have := hMl.out; omega) hbv5.out (fun _ => hB1.out)).mono ?_
        rintro en w6 ⟨rfl, L6, hb6, hw6, hl6, hon6, hs6, hv6⟩
        have HW6 := Lib.hid hw6
        have hfin := Lib.hid (divL_step (M := M) (M' := L6) (M0 := M0) (Qt := Qt) (i := i) (n := m.length) (N := l.length + 1) (Q := Q) (Y := y * 2 ^ s) (A := A) HA.out HNQ.out (by omega) hQtl.out hYn.out hY0.out
          (by rw [hv6, hmbv.out]; exact hs1.out.2) (fun j hj => by rw [hs6 j hj]; exact HO5.out j hj) hz.out hlow.out hsum.out)
        have HL6 : Hid (L6.length = l.length + 1) := Lib.hid (by rw [hl6, HL'l.out, hMl.out])
        have hQt6 := hQt5.only hon6 (by have := h12.out; omega)
        have hbv6 := Lib.hid (hbv5.out.only hon6 hB1.out)
        have hbel6 := below_only hbel5 hon6 (Nat.le_refl _)
        have hcQ := hQt6.cell i (by have := hQtl.out; omega)
        have hfree := hQt6.free i
        have hg2 : g - 1 < 4294967296 := by omega
        clear hw6 hl6 hs6 hv6
        go_wp2_with fail
        go_roundw
        case rel =>
          have hset := (Only.refl w2.heap.size w6).setCell i (Value.int IntKind.u32 ((g : Int) - 1))
          refine ⟨i, L6, Qt.set i (A / (y * 2 ^ s)), by omega, rfl, hb6.only hset (by have := h12.out; omega), HW6, HL6, hQt6.setCell i _ _ (by rw [hgq.out]; unfold U; go_num), Lib.hid (ws_set hQtw.out _ (by rw [hgq.out]; exact hg2)),
            Lib.hid (by rw [List.length_set]; exact hQtl.out), Lib.hid (hbv6.out.only hset (fun e => by have := hB3.out _ e; have := h12.out; omega)), below_only hbel6 hset (by have := h12.out; omega),
            Lib.hid hfin.out.1, Lib.hid hfin.out.2.1, Lib.hid hfin.out.2.2.1, Lib.hid hfin.out.2.2.2⟩
        case measure => simp [intOf]
      · have hbr0 : br = 0 := by omega
        have hbb : (br == 1) = false := by simp [hbr0]
        have hs1 : Hid (g = A / (y * 2 ^ s) ∧ pv L' i (m.length + 1) = A % (y * 2 ^ s)) := Lib.hid (by
          have h9 := HV5.out
          rw [hbr0, Nat.mul_zero, Nat.add_zero] at h9
          exact div_low h9 hY0.out hG1.out.1 hLlt.out)
        have hfin := Lib.hid (divL_step (M := M) (M' := L') (M0 := M0) (Qt := Qt) (i := i) (n := m.length) (N := l.length + 1) (Q := Q) (Y := y * 2 ^ s) (A := A) HA.out HNQ.out (by omega) hQtl.out hYn.out hY0.out
          hs1.out.2 HO5.out hz.out hlow.out hsum.out)
        have HL5 : Hid (L'.length = l.length + 1) := Lib.hid (by rw [HL'l.out, hMl.out])
        have hcQ := hQt5.cell i (by have := hQtl.out; omega)
        have hfree := hQt5.free i
        have hgq : Hid (A / (y * 2 ^ s) = g) := Lib.hid hs1.out.1.symm
        clear hbr1 hbr0
        go_wp2_with fail
        go_roundw
        case rel =>
          have hset := (Only.refl w2.heap.size w5).setCell i (Value.int IntKind.u32 (g : Int))
          refine ⟨i, L', Qt.set i (A / (y * 2 ^ s)), by omega, rfl, hL'.only hset (by have := h12.out; omega), HL'w, HL5, hQt5.setCell i _ _ (by rw [hgq.out]; unfold U; go_num), Lib.hid (ws_set hQtw.out _ (by rw [hgq.out]; exact hgB)),
            Lib.hid (by rw [List.length_set]; exact hQtl.out), Lib.hid (hbv5.out.only hset (fun e => by have := hB3.out _ e; have := h12.out; omega)), below_only hbel5 hset (by have := h12.out; omega),
            Lib.hid hfin.out.1, Lib.hid hfin.out.2.1, Lib.hid hfin.out.2.2.1, Lib.hid hfin.out.2.2.2⟩
        case measure => simp [intOf]
    · obtain rfl : k = 0 := by omega
      have hqr : Hid (val Qt = x / y ∧ val (M.take m.length) = x % y * 2 ^ s) := Lib.hid (by
        have h9 := hsum.out
        rw [Nat.sub_zero, Nat.sub_zero, pv_eq_val hQtl.out, pv_eq_val HM0l.out, HM0v.out, HX.out, val_digs] at h9
        have h8 := hlt.out
        have e : pv M 0 m.length = val (M.take m.length) := by simp [pv]
        rw [← e]
        have hp : 0 < 2 ^ s := Nat.pow_pos (by omega)
        have hd : x * 2 ^ s / (y * 2 ^ s) = val Qt := by
          rw [← h9, Nat.mul_comm (val Qt), Nat.mul_add_div hY0.out, Nat.div_eq_of_lt h8, Nat.add_zero]
        have hm : x * 2 ^ s % (y * 2 ^ s) = pv M 0 m.length := by
          rw [← h9, Nat.mul_comm (val Qt), Nat.mul_add_mod, Nat.mod_eq_of_lt h8]
        rw [Nat.mul_div_mul_right _ _ hp] at hd
        rw [Nat.mul_mod_mul_right] at hm
        exact ⟨hd.symm, hm.symm⟩)
      have hIq := hQt.isW_all hQtw.out Q (by have := hQtl.out; omega) (by have := hQtl.out; omega)
      rw [hQtl.out] at hIq
      have hIr := hM.isW hMw.out 0 m.length (l.length + 1) (by have := hMl.out; omega) (by omega) (by omega)
      rw [List.drop_zero] at hIr
      have C1 := Lib.hid (trim_d (w := wo.drew) hIq hqr.out.1)
      have C2 := Lib.hid (trim_d (w := wo.drew) hIr hqr.out.2)
      clear hIq hIr
      go_wp2_with fail
      go_region_with (first | (go_at_call_of 150 (Value.slice (some { block := w2.heap.size, off := 0 }) Q Q); refine C1.out.mono ?_; rintro en w6 ⟨⟨q, rfl, hq, hqo⟩, rfl⟩) | (go_at_call 150; refine C2.out.mono ?_; rintro en w7 ⟨⟨r, rfl, hr, hro⟩, rfl⟩) | (go_at_call 169; refine (shiftRight_l hr s hs).mono ?_; rintro en w8 ⟨⟨r2, rfl, hr2, hro2⟩, hbel8⟩))
      all_goals
        rw [val_digs, Nat.mul_div_cancel _ (Nat.pow_pos (by omega))] at hr2
        go_wp2_with fail
        go_ret2
        refine ⟨⟨q, r2, rfl, hq.below hbel8, hr2, fun z hz => ?_, fun z hz => ?_⟩, below_trans hon (below_undrew hbel8)⟩
        · have h9 := hqo z hz
          simp [Value.ownBlock] at h9
          have := h12.out
          omega
        · have h9 := hro2 z hz
          have := hon.size
          simp at h9
          omega
end Go.Proofs.YtafenoohjcpjgaaGreat

/- Division. -/
namespace Go.Proofs.YtafenoohjcpjgaaGreat
open Go.RowKit

theorem compare_d {w : World} {u v : Value} {x y : Nat} (hu : IsW w u (digs x)) (hv : IsW w v (digs y)) :
    Calls Tryz.prog 122 #[u, v] w fun e w' => e = .returned (.int .i64 (cmpN x y)) ∧ (∃ n, w' = w.drewN n) := by
  have := compare_w hu hv (norm_digs x) (norm_digs y)
  rwa [val_digs, val_digs] at this

theorem value_d {w : World} {v : Value} {x : Nat} (h : IsW w v (digs x)) (hl : (digs x).length ≤ 2) :
    Calls Tryz.prog 130 #[v] w fun e w' => e = .returned (.int .u64 x) ∧ w = w' := by
  have := value_w h hl
  rwa [val_digs] at this

theorem fromUint_q (n : Nat) (hn : n < 18446744073709551616) (w : World) :
    Calls Tryz.prog 128 #[.int .u64 n] w fun e w' => (∃ r, e = .returned r ∧ IsW w' r (digs n) ∧ (∀ b, r.ownBlock = some b → w.heap.size ≤ b)) ∧ Below w.heap.size w w' := fromUint_w n hn

/-- What a division gives back: the quotient and the rest; their words new, or the dividend's. -/
def DivPost (w : World) (u : Value) (x y : Nat) (e : Ending) (w' : World) : Prop :=
  (∃ q r, e = .returned (.tuple #[q, r]) ∧ IsW w' q (digs (x / y)) ∧ IsW w' r (digs (x % y)) ∧ (∀ b, q.ownBlock = some b → w.heap.size ≤ b ∨ u.ownBlock = some b) ∧ (∀ b, r.ownBlock = some b → w.heap.size ≤ b ∨ u.ownBlock = some b)) ∧ Below w.heap.size w w'

theorem two_lt {l : List Nat} (h : Ws l) (hl : l.length ≤ 2) : val l < 18446744073709551616 := by
  have h1 := val_lt h
  have h2 : 4294967296 ^ l.length ≤ 4294967296 ^ 2 := Nat.pow_le_pow_right (by omega) hl
  have h3 : (4294967296 : Nat) ^ 2 = 18446744073709551616 := rfl
  omega

set_option maxHeartbeats 1000000 in
theorem div_w {w : World} {u v : Value} {x y : Nat} (hu : IsW w u (digs x)) (hv : IsW w v (digs y)) (hy : 0 < y) (hl : (digs x).length < 1073741824) :
    Calls Tryz.prog 127 #[u, v] w (DivPost w u x y) := by
  have HU := Lib.hid hu
  have HV := Lib.hid hv
  have HL := Lib.hid hl
  have HY := Lib.hid hy
  clear hu hv hl hy
  by_cases ho : y = 1
  · have ho1 := oneB_true ho
    have HO := Lib.hid ho
    clear ho
    go_enter Tryz.func127, Tryz.ntmps127
    go_wp2_with fail
    refine (isOne_w HV.out).mono ?_
    rintro en w1 ⟨rfl, rfl⟩
    go_wp2_with fail
    go_ret2
    refine ⟨⟨u, .slice none 0 0, rfl, ?_, ?_, fun b hb => Or.inr hb, by simp [Value.ownBlock]⟩, Below.refl _ _⟩
    · rw [HO.out, Nat.div_one]; exact HU.out
    · rw [HO.out, Nat.mod_one, digs_zero]; exact IsW.nil _
  · have ho1 := oneB_false ho
    have HO := Lib.hid ho
    clear ho
    by_cases hlt : x < y
    · have hc : cmpN x y < 0 := by unfold cmpN; rw [if_pos hlt]; omega
      have HLT := Lib.hid hlt
      clear hlt
      go_enter Tryz.func127, Tryz.ntmps127
      go_wp2_with fail
      refine (isOne_w HV.out).mono ?_
      rintro en w1 ⟨rfl, rfl⟩
      go_wp2_with fail
      refine (compare_d HU.out HV.out).mono ?_
      rintro en w1 ⟨rfl, n1, rfl⟩
      go_wp2_with fail
      go_ret2
      refine ⟨⟨.slice none 0 0, u, rfl, ?_, ?_, by simp [Value.ownBlock], fun b hb => Or.inr hb⟩, below_drewN (Below.refl _ _) _⟩
      · rw [Nat.div_eq_of_lt HLT.out, digs_zero]; exact IsW.nil _
      · rw [Nat.mod_eq_of_lt HLT.out]; exact HU.out
    · have hc : ¬ cmpN x y < 0 := by unfold cmpN; rw [if_neg hlt]; split <;> omega
      have HLE : Hid (y ≤ x) := Lib.hid (by omega)
      clear hlt
      by_cases hsh : (digs x).length ≤ 2
      · have hs1 := shortB_true hsh
        have HS := Lib.hid hsh
        have HS2 : Hid ((digs y).length ≤ 2) := Lib.hid (Nat.le_trans (len_digs_mono HLE.out) hsh)
        clear hsh
        have bx : x < 18446744073709551616 := by have := two_lt (ws_digs x) HS.out; rwa [val_digs] at this
        have w1 := quoW_wrap x y bx
        have hq : quoW x y < 18446744073709551616 := by
          have := Nat.div_le_self x y
          unfold quoW; generalize x / y = q at *; omega
        have hr : remW x y < 18446744073709551616 := by
          have := Nat.mod_le x y
          unfold remW; generalize x % y = q at *; omega
        have w2 : (x : Int) % (y : Int) = (remW x y : Int) := by unfold remW; rw [Int.natCast_emod]
        have hyn : 0 < y := HY.out
        go_enter Tryz.func127, Tryz.ntmps127
        go_wp2_with fail
        refine (isOne_w HV.out).mono ?_
        rintro en w1 ⟨rfl, rfl⟩
        go_wp2_with fail
        refine (compare_d HU.out HV.out).mono ?_
        rintro en w1 ⟨rfl, n1, rfl⟩
        go_wp2_with fail
        refine (short_w (HU.out.drewN n1)).mono ?_
        rintro en w1 ⟨rfl, rfl⟩
        go_wp2_with fail
        refine (value_d (HU.out.drewN n1) HS.out).mono ?_
        rintro en w1 ⟨rfl, rfl⟩
        go_wp2_with fail
        refine (value_d (HV.out.drewN n1) HS2.out).mono ?_
        rintro en w1 ⟨rfl, rfl⟩
        go_wp2_with fail
        refine (fromUint_q (quoW x y) hq _).mono ?_
        rintro en w2 ⟨⟨q, rfl, hq2, hqo⟩, hbel⟩
        have hbel := below_undraw hbel
        have HQ := Lib.hid hq2
        have HQO := Lib.hid hqo
        clear hq2 hqo
        go_wp2_with fail
        refine (value_d (HU.out.below hbel) HS.out).mono ?_
        rintro en w3 ⟨rfl, rfl⟩
        go_wp2_with fail
        refine (value_d (HV.out.below hbel) HS2.out).mono ?_
        rintro en w3 ⟨rfl, rfl⟩
        go_wp2_with fail
        refine (fromUint_q (remW x y) hr _).mono ?_
        rintro en w4 ⟨⟨r, rfl, hr2, hro⟩, hbel4⟩
        go_wp2_with fail
        go_ret2
        exact ⟨⟨q, r, rfl, HQ.out.below hbel4, hr2, fun b hb => Or.inl (HQO.out b hb), fun b hb => Or.inl (by have := hro b hb; have := hbel.size; omega)⟩, below_trans hbel hbel4⟩
      · have hs1 := shortB_false hsh
        have HS := Lib.hid hsh
        clear hsh
        obtain ⟨m, hm⟩ : ∃ m, m = digs y := ⟨_, rfl⟩
        obtain ⟨l, hll⟩ : ∃ l, l = digs x := ⟨_, rfl⟩
        have HM := Lib.hid hm
        have HLL := Lib.hid hll
        have hv := HV.out
        have hu := HU.out
        rw [← hm] at hv
        rw [← hll] at hu
        have HVm := Lib.hid hv
        have HUl := Lib.hid hu
        have hmw := ws_nth hv.ws 0
        obtain ⟨b, bcap, hbe, k1, k2, k3, k4, k5⟩ := id hv
        subst hbe
        have K4 := Lib.hid k4
        have hm0 : Hid (0 < m.length) := Lib.hid (by rw [HM.out]; exact List.length_pos_iff.2 (fun e => by have := HY.out; have := digs_eq_nil.1 e; omega))
        clear hm hll hv hu k3 k4 k5
        by_cases h1 : m.length = 1
        · have hd : ((m.length : Int) == 1) = true := by simp [h1]
          obtain ⟨bb, boff, rfl, -, -⟩ := K4.out (by intro e; simp at e; subst e; simp at h1)
          have hcell0 := HVm.out.cell 0 (by omega)
          have hy1 : Hid (val m = nth m 0 ∧ y = nth m 0) := Lib.hid (by
            have e : val m = nth m 0 := by
              have := pv_succ m 0 0
              rw [pv_zero, pv_eq_val (by omega)] at this
              simpa using this
            exact ⟨e, by rw [← e, HM.out, val_digs]⟩)
          have hpos : 0 < nth m 0 := by have := hy1.out.2; have := HY.out; omega
          have H1 := Lib.hid h1
          clear h1
          go_enter Tryz.func127, Tryz.ntmps127
          go_wp2_with fail
          refine (isOne_w HV.out).mono ?_
          rintro en w1 ⟨rfl, rfl⟩
          go_wp2_with fail
          refine (compare_d HU.out HV.out).mono ?_
          rintro en w1 ⟨rfl, n1, rfl⟩
          go_wp2_with fail
          refine (short_w (HU.out.drewN n1)).mono ?_
          rintro en w1 ⟨rfl, rfl⟩
          go_wp2_with fail
          have hl0 : Hid (0 < l.length) := Lib.hid (by have := HS.out; rw [HLL.out]; omega)
          refine (clone_b (HUl.out.drewN n1) hl0.out).mono ?_
          rintro en w2 ⟨rfl, hb2, hbel, hsz⟩
          simp only [World.heap_drewN] at hb2 hbel hsz
          have HSZ := Lib.hid hsz
          replace hbel := below_undraw hbel
          have hcell : w2.cell? ⟨bb, boff, none⟩ = some (.int .u32 (nth m 0)) := by
            have h9 := (HVm.out.below hbel).cell 0 (by have := hm0.out; omega)
            simpa using h9
          clear hsz hcell0
          go_wp2_with fail
          have hlw : Hid (Ws l) := Lib.hid HUl.out.ws
          have hll : Hid (l.length ≤ 1073741824) := Lib.hid HUl.out.len
          refine (divWord_l hb2 hlw.out (Nat.le_refl _) hll.out hpos hmw).mono ?_
          rintro en w3 ⟨rfl, L3, hb3, hw3, hl3, hon3, -, hv3⟩
          have hq3 : Hid (val L3 = x / y ∧ pv l 0 l.length % nth m 0 = x % y) := Lib.hid (by
            rw [pv_eq_val rfl] at hv3 ⊢
            rw [pv_eq_val hl3] at hv3
            rw [hv3, HLL.out, val_digs, ← hy1.out.2]
            exact ⟨rfl, rfl⟩)
          have hI := hb3.isW_all hw3 l.length (by omega) (by have := hll.out; omega)
          rw [hl3] at hI
          have HI := Lib.hid hI
          have hrm : pv l 0 l.length % nth m 0 < 4294967296 := Nat.lt_trans (Nat.mod_lt _ hpos) hmw
          obtain ⟨rr, hrr⟩ : ∃ rr, rr = pv l 0 l.length % nth m 0 := ⟨_, rfl⟩
          rw [← hrr] at hrm hq3 ⊢
          have w5 : IntKind.u64.wrap (rr : Int) = (rr : Int) := IntWalk.u64_in _ (by omega)
          clear hI hl3 hw3 hv3 hrr
          go_wp2_with fail
          refine (trim_d HI.out hq3.out.1).mono ?_
          rintro en w4 ⟨⟨q, rfl, hq, hqo⟩, rfl⟩
          go_wp2_with fail
          refine (fromUint_q rr (by omega) _).mono ?_
          rintro en w5 ⟨⟨r, rfl, hr, hro⟩, hbel5⟩
          go_wp2_with fail
          go_ret2
          have hbW := below_only hbel hon3 (Nat.le_refl _)
          rw [hq3.out.2] at hr
          refine ⟨⟨q, r, rfl, hq.below hbel5, hr, fun z hz => Or.inl ?_, fun z hz => Or.inl ?_⟩, below_trans hbW hbel5⟩
          · have h9 := hqo z hz
            simp [Value.ownBlock] at h9
            omega
          · have := hro z hz; have := hbW.size; omega
        · have hd : ((m.length : Int) == 1) = false := by simp; omega
          go_enter Tryz.func127, Tryz.ntmps127
          go_wp2_with fail
          refine (isOne_w HV.out).mono ?_
          rintro en w1 ⟨rfl, rfl⟩
          go_wp2_with fail
          refine (compare_d HU.out HV.out).mono ?_
          rintro en w1 ⟨rfl, n1, rfl⟩
          go_wp2_with fail
          refine (short_w (HU.out.drewN n1)).mono ?_
          rintro en w1 ⟨rfl, rfl⟩
          go_wp2_with fail
          have hdl := Lib.hid (divLong_c (w := w.drewN n1) HLL.out HM.out (HUl.out.drewN n1) (HVm.out.drewN n1) (by have := hm0.out; omega) (by rw [HM.out, HLL.out]; exact len_digs_mono HLE.out) (by rw [HLL.out]; exact HL.out))
          refine hdl.out.mono ?_
          rintro en w2 ⟨⟨q, r, rfl, hq, hr, hqo, hro⟩, hbel⟩
          go_wp2_with fail
          go_ret2
          exact ⟨⟨q, r, rfl, hq, hr, fun b hb => Or.inl (hqo b hb), fun b hb => Or.inl (hro b hb)⟩, below_undraw hbel⟩
end Go.Proofs.YtafenoohjcpjgaaGreat
