/- Several texts in one: J6. -/
import Derived.Test.YtlaphdlocchagaaZ35
import Derived.Deep.DrawnRows
/- Fits, of the program and of the reference: what they ask of a row and of the signs. -/
namespace Go.Proofs.Ytlaphdlocchagaa
open Go.RowKit
attribute [local go_sem ↓] Go.wp_at_zero Go.wp_at_succ

/-- Does a condition of a sense hold, of sums in such an order? -/
def holdsB (s o : Int) : Bool := decide (o = 0) || decide (o = s)
theorem holds_w {w : World} {s o : Int} {t : Bool} (ht : holdsB s o = t) :
    Calls Try.prog 22 #[.int .i64 s, .int .i64 o] w fun e w' => e = .returned (.bool t) ∧ Below w.heap.size w w' := by
  by_cases h0 : o = 0
  · have e : t = true := by rw [← ht]; unfold holdsB; simp [h0]
    subst e
    have t0 : (o == 0) = true := by simpa using h0
    clear h0 ht
    go_enter Try.func22, Try.ntmps22
    go_wp2_with fail
    go_ret
    exact ⟨rfl, Below.refl _ _⟩
  · have t0 : (o == 0) = false := by simpa using h0
    have t1 : (o == s) = t := by rw [← ht]; unfold holdsB; by_cases h : o = s <;> simp [h, h0] <;> omega
    clear h0 ht
    go_enter Try.func22, Try.ntmps22
    go_wp2_with fail
    go_ret
    exact ⟨rfl, Below.refl _ _⟩

set_option maxRecDepth 8000 in
set_option maxHeartbeats 2000000 in
theorem rholds_w {n m : Nat} {w : World} {x y : Value} {P S : Rat} {s : Int} {t : Bool} (hx : SzF n w x P) (hy : SzF m w y S) (hn : n ≤ 4096) (hm : m ≤ 4096) (ht : holdsB s (cmpQ P S) = t) :
    Calls Try.prog 25 #[x, .int .i64 s, y] w fun e w' => e = .returned (.bool t) ∧ Below w.heap.size w w' := by
  have HX := Lib.hid hx
  have HY := Lib.hid hy
  obtain ⟨b, l, k, ⟨u, d, rfl, hu, hd⟩, -⟩ := hx
  obtain ⟨ua, un, uc, hue⟩ := hu.form
  subst hue
  obtain ⟨da, dn, dc, hde⟩ := hd.form
  subst hde
  obtain ⟨b', l', k', ⟨u', d', rfl, hu', hd'⟩, -⟩ := hy
  obtain ⟨va, vn, vc, hve⟩ := hu'.form
  subst hve
  obtain ⟨ea, en, ec, hee⟩ := hd'.form
  subst hee
  clear hu hd hu' hd'
  obtain ⟨w1, hw1⟩ : ∃ w1, w1 = ((w.alloc (Obj.cells #[Value.bool b, Value.slice ua un uc, Value.slice da dn dc] 34)).alloc (Obj.cells #[Value.bool b', Value.slice va vn vc, Value.slice ea en ec] 34)) := ⟨_, rfl⟩
  have HB1 : Hid (Below w.heap.size w w1) := Lib.hid (by rw [hw1]; exact ((Below.refl _ _).alloc (Nat.le_refl _) _).alloc (by simp) _)
  have HXB : Hid (w1.heap[w.heap.size]? = some (.cells #[Value.bool b, Value.slice ua un uc, Value.slice da dn dc] 34 (0, 0))) := Lib.hid (by rw [hw1]; exact heap_alloc2_old w _ _)
  have HYB : Hid (w1.heap[w.heap.size + 1]? = some (.cells #[Value.bool b', Value.slice va vn vc, Value.slice ea en ec] 34 (0, 0))) := Lib.hid (by rw [hw1]; exact heap_alloc2_new w _ _)
  have HW1 := Lib.hid hw1.symm
  have K := Lib.hid (rcmp_s (HX.out.below HB1.out) (HY.out.below HB1.out) hn hm)
  have hc := cmpQ_small P S
  obtain ⟨o, ho⟩ : ∃ o, o = cmpQ P S := ⟨_, rfl⟩
  rw [← ho] at K hc ht
  obtain ⟨hc1, hc2⟩ := hc
  have hz1 := Below.refl w1.heap.size w1
  have x0 := cells_later HXB.out 0 _ rfl _ hz1
  have x1 := cells_later HXB.out 1 _ rfl _ hz1
  have x2 := cells_later HXB.out 2 _ rfl _ hz1
  have y0 := cells_later HYB.out 0 _ rfl _ hz1
  have y1 := cells_later HYB.out 1 _ rfl _ hz1
  have y2 := cells_later HYB.out 2 _ rfl _ hz1
  clear hw1 ho
  by_cases h0 : o = 0
  · have e : t = true := by rw [← ht]; unfold holdsB; simp [h0]
    subst e
    have t0 : (o == 0) = true := by simpa using h0
    clear h0 ht
    go_enter Try.func25, Try.ntmps25
    go_wp2_with fail
    rw [HW1.out]
    refine K.out.mono ?_
    rintro en2 w2 ⟨rfl, hb2⟩
    go_wp2_with fail
    go_ret
    exact ⟨rfl, below_trans HB1.out hb2⟩
  · have t0 : (o == 0) = false := by simpa using h0
    have t1 : (o == s) = t := by rw [← ht]; unfold holdsB; by_cases h : o = s <;> simp [h, h0] <;> omega
    clear h0 ht
    go_enter Try.func25, Try.ntmps25
    go_wp2_with fail
    rw [HW1.out]
    refine K.out.mono ?_
    rintro en2 w2 ⟨rfl, hb2⟩
    go_wp2_with fail
    go_ret
    exact ⟨rfl, below_trans HB1.out hb2⟩

/-- Are the signs right? -/
def sgnOK (free : List Bool) (xs : List Rat) (i : Nat) : Prop := free[i]? = some true ∨ 0 ≤ cmpQ (nthQ xs i) 0
def sgnB (free : List Bool) (xs : List Rat) : Bool := decide (∀ i, i < xs.length → free[i]? = some true ∨ 0 ≤ cmpQ (nthQ xs i) 0)
theorem BoolsF.at {w : World} {a : Option Addr} {bs : List Bool} (h : BoolsF w a bs) {i : Nat} (hi : i < bs.length) :
    ∃ b B off, bs[i]? = some b ∧ a = some ⟨B, off, none⟩ ∧ ∀ w', Below w.heap.size w w' → w'.cell? ⟨B, off + i, none⟩ = some (.bool b) := by
  obtain ⟨B, off, ha, hc⟩ := h i _ (List.getElem?_eq_getElem hi)
  exact ⟨bs[i], B, off, List.getElem?_eq_getElem hi, ha, fun w' hb => cell_below hb hc⟩

set_option maxRecDepth 8000 in
set_option maxHeartbeats 4000000 in
theorem signedAs_w {N : Nat} {w : World} {v x : Value} {P : Pm} {xs : List Rat} (h : ProgF N w v P) (hx : ListF N w x xs) (hf : (P.free.length : Int) = P.vars) (hl : (xs.length : Int) = P.vars) (hn : xs.length ≤ 1000) :
    Calls Try.prog 21 #[v, x] w fun e w' => e = .returned (.bool (sgnB P.free xs)) ∧ Below w.heap.size w w' := by
  have HX := Lib.hid hx
  obtain ⟨fa, fc, ga, gc, ra, rc, rfl, hz1, hz2, hB, -, -⟩ := h
  have HBO := Lib.hid hB
  obtain ⟨xa, xc, rfl, -⟩ := hx
  obtain ⟨n, hnn⟩ : ∃ n, n = xs.length := ⟨_, rfl⟩
  have hv : P.vars = (n : Int) := by omega
  have hfl : P.free.length = n := by omega
  rw [hv, hfl, ← hnn]
  rw [← hnn] at hn HX
  have HNX := Lib.hid hnn
  have HFL := Lib.hid hfl
  obtain ⟨w1, hw1⟩ : ∃ w1, w1 = w.alloc (Obj.cells #[Value.int .i64 (n : Int), Value.slice fa n fc, Value.slice ga P.goal.length gc, Value.slice ra P.rows.length rc] 26) := ⟨_, rfl⟩
  have HB1 : Hid (Below w.heap.size w w1) := Lib.hid (by rw [hw1]; exact (Below.refl _ _).alloc (Nat.le_refl _) _)
  have HX1 : Hid (w1.heap[w.heap.size]? = some (.cells #[Value.int .i64 (n : Int), Value.slice fa n fc, Value.slice ga P.goal.length gc, Value.slice ra P.rows.length rc] 26 (0, 0))) := Lib.hid (by rw [hw1]; exact heap_alloc_new w _)
  have HW1 := Lib.hid hw1.symm
  clear hw1 hB hf hl hnn hv hfl hz1 hz2
  have RX := Lib.hid (cells_later HX1.out)
  have hb1 := Below.refl w1.heap.size w1
  have x0 := RX.out 0 _ rfl _ hb1
  have x1 := RX.out 1 _ rfl _ hb1
  go_enter Try.func21, Try.ntmps21
  go_wp2_with fail
  rw [HW1.out]
  go_loopw [8] (fun iv wr => ∃ i : Nat, i ≤ n ∧ iv = .int .i64 i ∧ Hid (∀ j, j < i → P.free[j]? = some true ∨ 0 ≤ cmpQ (nthQ xs j) 0) ∧ Hid (Below w1.heap.size w1 wr)) (fun iv _ => n - (intOf iv).toNat)
  case atStart => exact ⟨0, Nat.zero_le _, rfl, Lib.hid (fun j h => absurd h (Nat.not_lt_zero j)), Lib.hid hb1⟩
  case round =>
    obtain ⟨i, hi, rfl, hd, hZ⟩ := hrel
    obtain ⟨wo, rfl⟩ : ∃ wo : World, wo = wr := ⟨_, rfl⟩
    by_cases hin : i < n
    · have t0 : decide ((i : Int) < (n : Int)) = true := by simp; omega
      have x0 := RX.out 0 _ rfl _ hZ.out
      have x1 := RX.out 1 _ rfl _ hZ.out
      obtain ⟨fb, Bf, of, hfb, hfa, hcf⟩ := HBO.out.at (i := i) (by have := HFL.out; omega)
      subst hfa
      have f0 := hcf wo (below_trans HB1.out hZ.out)
      have HFB := Lib.hid hfb
      clear hcf hfb
      cases fb with
      | true =>
        have HD : Hid (∀ j, j < i + 1 → P.free[j]? = some true ∨ 0 ≤ cmpQ (nthQ xs j) 0) := Lib.hid (fun j hj => by
          by_cases e : j = i
          · subst e; exact Or.inl HFB.out
          · exact hd.out j (by omega))
        go_wp2_with fail
        go_roundw
        case rel => exact ⟨i + 1, by omega, by go_num, HD, hZ⟩
        case measure => simp [intOf]; omega
      | false =>
        obtain ⟨q, B, off, b, a1, n1, c1, a2, n2, c2, hq, ha, hc, hf⟩ := HX.out.at hin
        subst ha
        obtain ⟨k0, k1, k2⟩ := hc wo (below_trans HB1.out hZ.out)
        have HQ := Lib.hid (nthQ_of hq)
        have K := Lib.hid (sign_f (hf.inF.below (below_trans HB1.out hZ.out)))
        have hc9 := cmpQ_small q 0
        obtain ⟨o, ho⟩ : ∃ o, o = cmpQ q 0 := ⟨_, rfl⟩
        rw [← ho] at K hc9
        obtain ⟨ho1, ho2⟩ := hc9
        have HO := Lib.hid ho
        clear hc hf hq ho
        by_cases h0 : o < 0
        · have t1 : decide (o < 0) = true := by simpa using h0
          have HE : Hid (sgnB P.free xs = false) := Lib.hid (by
            unfold sgnB
            rw [decide_eq_false_iff_not]
            intro h
            rcases h i (by have := HNX.out; omega) with e | e
            · rw [HFB.out] at e; cases e
            · rw [HQ.out, ← HO.out] at e; omega)
          clear h0
          go_wp2_with fail
          refine K.out.mono ?_
          rintro en2 w2 ⟨rfl, hb2⟩
          go_wp2_with fail
          go_ret
          exact ⟨by rw [HE.out]; first | done | rfl, below_trans HB1.out (below_trans hZ.out hb2)⟩
        · have t1 : decide (o < 0) = false := by simpa using h0
          have HD : Hid (∀ j, j < i + 1 → P.free[j]? = some true ∨ 0 ≤ cmpQ (nthQ xs j) 0) := Lib.hid (fun j hj => by
            by_cases e : j = i
            · subst e; right; rw [HQ.out, ← HO.out]; omega
            · exact hd.out j (by omega))
          clear h0
          go_wp2_with fail
          refine K.out.mono ?_
          rintro en2 w2 ⟨rfl, hb2⟩
          have HZ2 := Lib.hid (below_trans hZ.out hb2)
          go_wp2_with fail
          go_roundw
          case rel => exact ⟨i + 1, by omega, by go_num, HD, HZ2⟩
          case measure => simp [intOf]; omega
    · have t0 : decide ((i : Int) < (n : Int)) = false := by simp; omega
      have HE : Hid (sgnB P.free xs = true) := Lib.hid (by
        unfold sgnB
        rw [decide_eq_true_eq]
        intro j hj
        exact hd.out j (by have := HNX.out; omega))
      go_wp2_with fail
      go_ret
      exact ⟨by rw [HE.out]; first | done | rfl, below_trans HB1.out hZ.out⟩
end Go.Proofs.Ytlaphdlocchagaa
