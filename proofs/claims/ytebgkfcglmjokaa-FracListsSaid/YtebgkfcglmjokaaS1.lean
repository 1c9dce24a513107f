/- Decimal digits: arithmetic alone. -/
import Derived.Test.YtebgkfcglmjokaaRn
import Derived.Deep.AppendLies
import Derived.Test.YtebgkfcglmjokaaLa
import Derived.Laws.BytesString
import Derived.Test.YtebgkfcglmjokaaLd
namespace Go.Proofs.Ytebgkfcglmjokaa

/-- So many decimal digits of x, the least first, as bytes. -/
def bw (x n : Nat) : List Nat := (List.range n).map (fun i => 48 + x / 10 ^ i % 10)
theorem bw_len (x n : Nat) : (bw x n).length = n := by simp [bw]
theorem bw_succ (x n : Nat) : bw x (n + 1) = bw x n ++ [48 + x / 10 ^ n % 10] := by simp [bw, List.range_succ]
theorem bw_get {x n i : Nat} (h : i < n) : nth (bw x n) i = 48 + x / 10 ^ i % 10 := by
  simp [nth, bw, List.getD_eq_getElem?_getD, h]
theorem bw_lt (x n : Nat) : ∀ c ∈ bw x n, c < 256 := by
  intro c hc
  simp only [bw, List.mem_map, List.mem_range] at hc
  obtain ⟨i, -, rfl⟩ := hc
  omega

/-- How many decimal digits. -/
def ndig (x : Nat) : Nat := if h : x = 0 then 0 else ndig (x / 10) + 1
termination_by x
decreasing_by omega
theorem ndig_zero : ndig 0 = 0 := by unfold ndig; simp
theorem ndig_pos {x : Nat} (h : x ≠ 0) : ndig x = ndig (x / 10) + 1 := by rw [ndig]; simp [h]
theorem ndig_le {x k : Nat} : ndig x ≤ k ↔ x < 10 ^ k := by
  induction k generalizing x with
  | zero =>
    by_cases h : x = 0
    · subst h; simp [ndig_zero]
    · simp [ndig_pos h]; omega
  | succ k ih =>
    by_cases h : x = 0
    · subst h; simp [ndig_zero]; exact Nat.pos_of_ne_zero (by simp)
    · rw [ndig_pos h, Nat.add_le_add_iff_right, ih, Nat.pow_succ]
      exact Nat.div_lt_iff_lt_mul (by omega)
/-- A number in decimal digits, as bytes. -/
def decS (x : Nat) : List Nat := if x = 0 then [48] else (bw x (ndig x)).reverse
theorem decS_lt (x : Nat) : ∀ c ∈ decS x, c < 256 := by
  intro c hc
  unfold decS at hc
  split at hc
  · simp at hc; omega
  · exact bw_lt _ _ c (List.mem_reverse.1 hc)
/-- The last digit of so many is a nought just if fewer do. -/
theorem bw_top {x n : Nat} (h : x < 10 ^ (n + 1)) : (48 + x / 10 ^ n % 10 = 48) ↔ x < 10 ^ n := by
  have h1 : x / 10 ^ n < 10 := (Nat.div_lt_iff_lt_mul (Nat.pow_pos (by omega))).2 (by rw [Nat.pow_succ, Nat.mul_comm] at h; exact h)
  rw [Nat.mod_eq_of_lt h1]
  constructor
  · intro h2
    have h3 : x / 10 ^ n = 0 := by omega
    rcases Nat.lt_or_ge x (10 ^ n) with h4 | h4
    · exact h4
    · exfalso
      have := Nat.div_pos h4 (Nat.pow_pos (by omega))
      omega
  · intro h2; rw [Nat.div_eq_of_lt h2]
/-- A digit out of a piece of nine. -/
theorem piece_digit {x y t j : Nat} (hy : y = x / 10 ^ j) (ht : t < 9) : y % 1000000000 / 10 ^ t % 10 = x / 10 ^ (j + t) % 10 := by
  subst hy
  rw [Nat.pow_add, ← Nat.div_div_eq_div_mul]
  generalize x / 10 ^ j = y
  have e : (1000000000 : Nat) = 10 ^ t * (10 * 10 ^ (8 - t)) := by
    rw [← Nat.pow_succ', ← Nat.pow_add, show t + (8 - t + 1) = 9 by omega]
  rw [e, Nat.mod_mul_right_div_self, Nat.mod_mul_right_mod]

end Go.Proofs.Ytebgkfcglmjokaa

/- A number's decimal digits: the walk. -/
namespace Go.Proofs.Ytebgkfcglmjokaa
open Go.RowKit

/-- A byte as a value. -/
def By (n : Nat) : Value := .int .u8 n
theorem iu8 : (Try.prog.info? 5).map (fun i => (i.zero, i.size, i.bytes)) = some (some (.int .u8 0), 1, 1) := by kernel_rfl

/-- The bytes of a block that is all bytes. -/
def BlkB (w : World) (B : Nat) (e : TypeId) (l : List Nat) : Prop := w.heap[B]? = some (.cells (l.map By).toArray e (0, 0))
theorem BlkB.cell {w : World} {B : Nat} {e : TypeId} {l : List Nat} (h : BlkB w B e l) (j : Nat) (hj : j < l.length) : w.cell? ⟨B, j, none⟩ = some (.int .u8 (nth l j)) := by
  have h' : w.heap[B]? = some (.cells (l.map By).toArray e (0, 0)) := h
  simp [World.cell?, h', By, nth, List.getD_eq_getElem?_getD, List.getElem?_eq_getElem hj]
theorem BlkB.free {w : World} {B : Nat} {e : TypeId} {l : List Nat} (h : BlkB w B e l) (j : Nat) : w.frozen? ⟨B, j, none⟩ = false := by
  have h' : w.heap[B]? = some (.cells (l.map By).toArray e (0, 0)) := h
  simp [World.frozen?, h']
theorem BlkB.setCell {w : World} {B : Nat} {e : TypeId} {l : List Nat} (h : BlkB w B e l) (k x : Nat) (v : Value) (hv : v = By x) : BlkB (w.setCell ⟨B, k, none⟩ v) B e (l.set k x) := by
  have h' : w.heap[B]? = some (.cells (l.map By).toArray e (0, 0)) := h
  subst hv
  simp [BlkB, World.setCell, Array.getElem?_modify, h', List.map_set]
theorem BlkB.own {w : World} {B base : Nat} {e : TypeId} {l : List Nat} (h : BlkB w B e l) (hb : base ≤ B) (hl : l.length ≤ maxLen) : w.ownsRow base e 1 (.slice (some ⟨B, 0, none⟩) l.length l.length) l.length (l.map By) :=
  ⟨by simp, .inr ⟨B, l.length, _, rfl, hb, h, Nat.le_refl _, hl, by simp, List.take_of_length_le (by simp)⟩⟩

theorem wpList_make_bytes {P : Program} {w : World} {ops : Array Oper} {rest : List Oper} {o : Oper} {a : Act} {Q : Exit → Act → World → Prop}
    (hg : o.guard = none) (l c : Operand) (t e : TypeId) (hop : o.op = Op.makeSlice t l c) (h1 : P.underlying t = some (.slice e))
    (h2 : (P.info? e).map (fun i => (i.zero, i.size, i.bytes)) = some (some (.int .u8 0), 1, 1)) (n : Nat) (hl : a.eval l = .int .i64 n) (hc : a.eval c = .int .i64 n) (hn : n ≤ 1073741824)
    (hK : ∀ w', BlkB w' w.heap.size e (List.replicate n 0) → Below w.heap.size w w' → Hid (w'.heap.size = w.heap.size + 1) → wpList P ops Q rest (a.put o.dst (.slice (some ⟨w.heap.size, 0, none⟩) n n)) w') :
    wpList P ops Q (o :: rest) a w := by
  obtain ⟨i, hi, hz, hs, hb⟩ := info_parts h2
  refine wpList_plain hg fun K hK' => ?_
  have hr := run_make (P := P) w t e i _ h1 hi hz .i64 .i64 n n (by omega) (Int.le_refl _) (by rw [hb]; omega) (by omega)
  simp only [Int.toNat_natCast, hs, Value.cells, madeCells_one, Nat.mul_one] at hr
  unfold Oper.wp
  simp [execOp, hop, hl, hc, hr, Result.andThen]
  refine hK' _ _ (hK _ ?_ ((Below.refl _ _).alloc (Nat.le_refl _) _) (Lib.hid (by simp)))
  show (w.heap.push _)[w.heap.size]? = _
  simp [By]

set_option maxRecDepth 4000 in
set_option maxHeartbeats 2000000 in
theorem digits_w {w : World} {v : Value} {x : Nat} (hv : IsW w v (digs x)) (hl : (digs x).length ≤ 100000) :
    Calls Try.prog 89 #[v] w fun e w' => (∃ r, e = .returned r ∧ w'.ownsRow w.heap.size 5 1 r (decS x).length ((decS x).map By)) ∧ Below w.heap.size w w' := by
  have HV := Lib.hid hv
  have HL := Lib.hid hl
  obtain ⟨a, n, c, rfl⟩ := hv.form
  clear hv hl
  by_cases h0 : x = 0
  · have hz := zerB_true h0
    have H0 := Lib.hid h0
    clear h0
    go_enter Try.func89, Try.ntmps89
    go_wp2_with fail
    refine (isZero_w HV.out).mono ?_
    rintro en w1 ⟨rfl, rfl⟩
    go_wp2_with fail
    have hd : decS x = [48] := by unfold decS; rw [if_pos H0.out]
    go_ret
    refine ⟨⟨_, rfl, ?_⟩, (Below.refl _ _).alloc (Nat.le_refl _) _⟩
    rw [hd]
    exact World.ownsRow_lit w #[Value.int IntKind.u8 48] 1 (Nat.le_refl _) (by unfold maxLen; omega) rfl
  · have hz := zerB_false h0
    have H0 := Lib.hid h0
    clear h0
    go_enter Try.func89, Try.ntmps89
    go_wp2_with fail
    refine (isZero_w HV.out).mono ?_
    rintro en w1 ⟨rfl, rfl⟩
    go_wp2_with fail
    refine (clone_b HV.out (by
      rcases Nat.eq_zero_or_pos (digs x).length with h | h
      · exact absurd (digs_eq_nil.1 (List.eq_nil_of_length_eq_zero h)) H0.out
      · exact h)).mono ?_
    rintro en w2 ⟨rfl, hb2, hbel2, hsz2⟩
    obtain ⟨i0, hi0', hz0', hz1', hz2'⟩ := info_parts iu8
    have HI0 := Lib.hid (And.intro hi0' (And.intro hz0' (And.intro hz1' hz2')))
    clear hi0' hz0' hz1' hz2'
    have hlen0 : Hid (0 < (digs x).length) := Lib.hid (by
      rcases Nat.eq_zero_or_pos (digs x).length with h | h
      · exact absurd (digs_eq_nil.1 (List.eq_nil_of_length_eq_zero h)) H0.out
      · exact h)
    have HW2 : Hid (Ws (digs x)) := Lib.hid (ws_digs x)
    have HX2 : Hid (∀ j g : Nat, g * 2 ^ j ≤ x → 0 < g → j < 3200000) := Lib.hid (fun j g h hg => by
      have h1 : 2 ^ j ≤ x := Nat.le_trans (Nat.le_mul_of_pos_left _ hg) h
      have h2 := lt_of_len_digs x
      have h3 : (4294967296 : Nat) ^ (digs x).length = 2 ^ (32 * (digs x).length) := by rw [Nat.pow_mul]
      rw [h3] at h2
      have h4 : j < 32 * (digs x).length := (Nat.pow_lt_pow_iff_right (by omega)).1 (Nat.lt_of_le_of_lt h1 h2)
      have := HL.out; omega)
    have hbel0 := Lib.hid hbel2
    have HSZ := Lib.hid hsz2
    clear hbel2 hsz2
    go_wp2_with fail
    go_loopg [3, 4] x (fun g bk lf wr => ∃ (j : Nat) (L : List Nat), Hid (g = x / 10 ^ (9 * j)) ∧ Hid (g * 2 ^ j ≤ x) ∧ j ≤ 3200000 ∧ lf = .slice (some ⟨w.heap.size, 0, none⟩) (digs g).length (digs g).length ∧ Hid (Blk wr w.heap.size 40 L) ∧ Hid (Ws L) ∧ Hid (L.length = (digs x).length) ∧
      Hid (L.take (digs g).length = digs g) ∧ Hid ((digs g).length ≤ L.length) ∧ Hid (wr.ownsRow (w.heap.size + 1) 5 1 bk (9 * j) ((bw x (9 * j)).map By)) ∧ Hid (Below w.heap.size w wr) ∧ Hid (w.heap.size + 1 ≤ wr.heap.size))
    case atStart =>
      exact ⟨0, digs x, Lib.hid (by simp), Lib.hid (by simp), by omega, rfl, Lib.hid hb2, HW2, Lib.hid rfl, Lib.hid (List.take_length), Lib.hid (Nat.le_refl _), Lib.hid (World.ownsRow_nil _ _ _ _), hbel0, Lib.hid (by rw [HSZ.out]; omega)⟩
    case round =>
      obtain ⟨j, L, hg, hgx, hj, rfl, hL, hLw, hLl, hLt, hLn, hown, hbel, hsz⟩ := hrel
      obtain ⟨cur, rfl⟩ : ∃ c, c = gk := ⟨_, rfl⟩
      have hIs : Hid (IsW wr (.slice (some ⟨w.heap.size, 0, none⟩) (digs cur).length (digs cur).length) (digs cur)) := Lib.hid (by
        have h9 := hL.out.isW hLw.out 0 (digs cur).length (digs cur).length (by have := hLn.out; omega) (Nat.le_refl _) (by have := hLn.out; have := hLl.out; have := HL.out; omega)
        rw [List.drop_zero, hLt.out] at h9
        exact h9)
      by_cases hc0 : cur = 0
      · have hzc := zerB_true hc0
        have HC0 := Lib.hid hc0
        clear hc0
        go_wp2_with fail
        refine (isZero_w hIs.out).mono ?_
        rintro en w3 ⟨rfl, rfl⟩
        go_wp2_with fail
        have hx9 : Hid (x < 10 ^ (9 * j)) := Lib.hid (by
          have h9 := hg.out
          rw [HC0.out] at h9
          have hp : 0 < 10 ^ (9 * j) := Nat.pow_pos (by omega)
          rcases Nat.lt_or_ge x (10 ^ (9 * j)) with h | h
          · exact h
          · have := Nat.div_pos h hp; omega)
        have hj9 : 0 < 9 * j := by
          rcases Nat.eq_zero_or_pos (9 * j) with h | h
          · exfalso
            have h9 := hx9.out
            rw [h] at h9
            simp at h9
            exact H0.out h9
          · exact h
        obtain ⟨N, hN⟩ : ∃ N, N = 9 * j := ⟨_, rfl⟩
        have HN := Lib.hid hN
        have hNb : N ≤ 28800000 := by omega
        have hownN : Hid (wr.ownsRow (w.heap.size + 1) 5 1 u3 N ((bw x N).map By)) := Lib.hid (by rw [hN]; exact hown.out)
        rw [← hN] at hx9 hj9
        clear hN hown
        obtain ⟨gb, cb, hbk, hgb1, hgb2⟩ := hownN.out.form hj9
        subst hbk
        go_wp2_with fail
        rw [run_len_slice (P := Try.prog) (w := wr) 86 3 (some ⟨gb, 0, none⟩) N cb Try.underlying86]
        go_wp2_with fail
        go_loop [6] (fun nv => ∃ k : Nat, nv = .int .i64 k ∧ 0 < k ∧ k ≤ N ∧ Hid (x < 10 ^ k)) (fun nv => (intOf nv).toNat)
        case atStart => exact ⟨N, by go_num, hj9, Nat.le_refl _, hx9⟩
        case round =>
          obtain ⟨k, rfl, hk0, hk, hxk⟩ := hrel
          obtain ⟨k1, rfl⟩ : ∃ k1, k = k1 + 1 := ⟨k - 1, by omega⟩
          have hc9 : wr.cell? ⟨gb, k1, none⟩ = some (.int .u8 (48 + x / 10 ^ k1 % 10 : Nat)) := by
            have h9 := hownN.out.cellAt k1 (by omega)
            rw [h9]
            simp [bw, By, show k1 < N by omega]
          obtain ⟨dg, hdg⟩ : ∃ d, d = 48 + x / 10 ^ k1 % 10 := ⟨_, rfl⟩
          have HDG := Lib.hid hdg
          rw [← hdg] at hc9
          have hk1 : (((k1 + 1 : Nat) : Int) - 1) = (k1 : Int) := by omega
          clear hdg
          by_cases hd0 : dg = 48
          · have hde : ((dg : Int) == 48) = true := by simp [hd0]
            have hxk1 : Hid (x < 10 ^ k1) := Lib.hid ((bw_top hxk.out).1 (by rw [← HDG.out]; exact hd0))
            have hk2 : 0 < k1 := by
              rcases Nat.eq_zero_or_pos k1 with h | h
              · exfalso
                have h9 := hxk1.out
                rw [h] at h9
                simp at h9
                exact H0.out h9
              · exact h
            clear hd0
            go_wp2_with fail
            go_round
            case rel => exact ⟨k1, by go_num, hk2, by omega, hxk1⟩
            case measure => simp [intOf]
          · have hde : ((dg : Int) == 48) = false := by simp; omega
            have hnd : Hid (ndig x = k1 + 1) := Lib.hid (by
              have h1 := ndig_le.2 hxk.out
              have h2 : ¬ ndig x ≤ k1 := fun h => hd0 (by rw [HDG.out]; exact (bw_top hxk.out).2 (ndig_le.1 h))
              omega)
            clear hd0
            go_wp2_with (at_make; refine wpList_make_bytes rfl _ _ _ _ rfl Try.underlying86 iu8 (k1 + 1) rfl rfl (by omega) ?_; intro w5 hb5 hbel5 hs5; refine halt ?_)
            refine go_on ?_
            have hc5 : Hid (∀ i, i < N → ∀ w', Below wr.heap.size wr w' → w'.cell? ⟨gb, i, none⟩ = some (.int .u8 (48 + x / 10 ^ i % 10 : Nat))) := Lib.hid (fun i hi w' hb => by
              rw [hb.cell (p := ⟨gb, i, none⟩) hgb2, hownN.out.cellAt i (by omega)]
              simp [bw, By, hi])
            obtain ⟨wz, rfl⟩ : ∃ wz : World, wz = wr := ⟨_, rfl⟩
            have HB5 := Lib.hid hb5
            have HBEL5 := Lib.hid hbel5
            have hk1b : k1 < 28800000 := by omega
            clear hc9 hb5 hbel5
            go_wp2_with fail
            go_loopw [47] (fun iv wr => ∃ (k : Nat) (M : List Nat), k ≤ k1 + 1 ∧ iv = .int .i64 k ∧ Hid (BlkB wr wz.heap.size 5 M) ∧ Hid (M.length = k1 + 1) ∧ Hid (Below wz.heap.size wz wr) ∧ Hid (∀ i, i < k → nth M i = 48 + x / 10 ^ (k1 - i) % 10)) (fun iv _ => k1 + 1 - (intOf iv).toNat)
            case atStart => exact ⟨0, _, by omega, rfl, HB5, Lib.hid (by simp), HBEL5, Lib.hid (fun i h => absurd h (by omega))⟩
            case round =>
              obtain ⟨k, M, hk9, rfl, hM, hMl, hbelM, hMv⟩ := hrel
              by_cases hkk : k < k1 + 1
              · have hcell := hc5.out (k1 - k) (by omega) _ hbelM.out
                obtain ⟨d2, hd2⟩ : ∃ d, d = 48 + x / 10 ^ (k1 - k) % 10 := ⟨_, rfl⟩
                have hd2b : d2 < 256 := by rw [hd2]; omega
                have HD2 := Lib.hid hd2
                rw [← hd2] at hcell
                have hsub : k + (k1 - k) = k1 := by omega
                obtain ⟨kd, hkd⟩ : ∃ d, d = k1 - k := ⟨_, rfl⟩
                rw [← hkd] at hcell
                have hix : ((k1 : Int) - (k : Int)) = (kd : Int) := by omega
                have hcM := hM.out.cell k (by have := hMl.out; omega)
                have hfM := hM.out.free k
                clear hd2 hsub hkd
                go_wp2_with fail
                go_roundw
                case rel => exact ⟨k + 1, M.set k d2, by omega, by go_num, Lib.hid (hM.out.setCell k _ _ rfl), Lib.hid (by rw [List.length_set]; exact hMl.out), Lib.hid (hbelM.out.setCell (Nat.le_refl _) _), Lib.hid (fun i hi => by
                  rcases Nat.lt_or_ge i k with h | h
                  · rw [nth_set_ne _ _ _ _ (by omega)]; exact hMv.out i h
                  · obtain rfl : i = k := by omega
                    rw [nth_set_self _ _ _ (by have := hMl.out; omega)]; exact HD2.out)⟩
                case measure => simp [intOf]; omega
              · obtain rfl : k = k1 + 1 := by omega
                have hMd : Hid (M = decS x) := Lib.hid (by
                  unfold decS
                  rw [if_neg H0.out, hnd.out]
                  refine ext_nth (by rw [hMl.out]; simp [bw]) (fun i hi => ?_)
                  rw [hMl.out] at hi
                  rw [hMv.out i hi]
                  have h9 : nth (bw x (k1 + 1)).reverse i = nth (bw x (k1 + 1)) (k1 - i) := by
                    simp only [nth, List.getD_eq_getElem?_getD]
                    rw [List.getElem?_reverse (by rw [bw_len]; exact hi), bw_len, show k1 + 1 - 1 - i = k1 - i by omega]
                  rw [h9, bw_get (by omega)])
                have hgo := Lib.hid (hM.out.own (base := w.heap.size) (by have := hsz.out; omega) (by rw [hMl.out]; unfold maxLen; omega))
                go_wp2_with fail
                go_ret
                refine ⟨⟨_, rfl, ?_⟩, hbel.out.trans (hbelM.out.mono (by have := hsz.out; omega))⟩
                have h9 := hgo.out
                rw [← hMd.out]
                rw [hMl.out] at h9 ⊢
                exact h9
      · have hzc := zerB_false hc0
        have HC0 : Hid (0 < cur) := Lib.hid (by omega)
        have hj2 : j < 3200000 := HX2.out j cur hgx.out HC0.out
        clear hc0
        go_wp2_with fail
        refine (isZero_w hIs.out).mono ?_
        rintro en w3 ⟨rfl, rfl⟩
        go_wp2_with fail
        have hpv : pv L 0 (digs cur).length = cur := by
          have h9 := congrArg val hLt.out
          rw [val_digs] at h9
          simpa [pv] using h9
        have HD := Lib.hid (divWord_l (w := wr) (B := w.heap.size) (n := (digs cur).length) (cap := (digs cur).length) (by_ := 1000000000) hL.out hLw.out hLn.out (by have := hLl.out; have := HL.out; omega) (by omega) (by omega))
        rw [hpv] at HD
        obtain ⟨r0, hr0⟩ : ∃ r, r = cur % 1000000000 := ⟨_, rfl⟩
        have HR0 := Lib.hid hr0
        rw [← hr0] at HD
        have hr0b : r0 < 1000000000 := by rw [hr0]; exact Nat.mod_lt _ (by omega)
        obtain ⟨nc, hnc⟩ : ∃ n, n = (digs cur).length := ⟨_, rfl⟩
        have HNC := Lib.hid hnc
        rw [← hnc] at HD
        rw [← hnc]
        clear hpv hr0 hnc
        refine HD.out.mono ?_
        rintro en w4 ⟨rfl, L2, hL2, hL2w, hL2l, hon4, hs4, hv4⟩
        have HL2 := Lib.hid hL2
        have HL2w := Lib.hid hL2w
        have HL2l : Hid (L2.length = (digs x).length) := Lib.hid (by rw [hL2l, hLl.out])
        have HV4 := Lib.hid hv4
        have hbel4 := Lib.hid (below_only hbel.out hon4 (Nat.le_refl _))
        have hsz4 : Hid (w.heap.size + 1 ≤ w4.heap.size) := Lib.hid (by rw [hon4.size]; exact hsz.out)
        have hown4 : Hid (w4.ownsRow (w.heap.size + 1) 5 1 u3 (9 * j) ((bw x (9 * j)).map By)) := Lib.hid (hown.out.kept (row := some w.heap.size) ⟨hon4.os, hon4.tape, hon4.output, Nat.le_of_eq hon4.size.symm, fun k _ hk => hon4.block k (fun e => hk (by rw [e]))⟩ (by
          cases ho : u3.ownBlock with
          | none => exact Or.inl rfl
          | some z => exact Or.inr (fun e => by have h9 := (hown.out.lt z ho).1; simp at e; omega)))
        clear hL2 hL2w hL2l hv4 hon4 hs4
        go_wp2_with fail
        go_loopw [3, 5, 21] (fun bk rs tv wr => ∃ t rt : Nat, t ≤ 9 ∧ tv = .int .i64 t ∧ rs = .int .u32 rt ∧ rt < 1000000000 ∧ Hid (rt = r0 / 10 ^ t) ∧ Hid (wr.ownsRow (w.heap.size + 1) 5 1 bk (9 * j + t) ((bw x (9 * j + t)).map By)) ∧ Hid (Blk wr w.heap.size 40 L2) ∧ Hid (Below w.heap.size w wr) ∧ Hid (w.heap.size + 1 ≤ wr.heap.size)) (fun _ _ tv _ => 9 - (intOf tv).toNat)
        case atStart => exact ⟨0, r0, by omega, rfl, rfl, hr0b, Lib.hid (by simp), hown4, HL2, hbel4, hsz4⟩
        case round =>
          obtain ⟨t, rt, ht, rfl, rfl, hrt, hrtv, hown5, hblk5, hbel5, hsz5⟩ := hrel
          obtain ⟨wo, rfl⟩ : ∃ wo : World, wo = wr := ⟨_, rfl⟩
          by_cases ht9 : t < 9
          · have hw8 : IntKind.u8.wrap (48 + (rt : Int) % 10) = 48 + (rt : Int) % 10 := by
              rw [IntKind.wrap_u8]; omega
            have hstep : Hid ((bw x (9 * j + t)).map By ++ [Value.int .u8 (48 + (rt : Int) % 10)] = (bw x (9 * j + t + 1)).map By) := Lib.hid (by
              rw [bw_succ, List.map_append]
              congr 1
              have h1 : rt % 10 = x / 10 ^ (9 * j + t) % 10 := by
                rw [hrtv.out, HR0.out]; exact piece_digit hg.out ht9
              simp only [List.map_cons, List.map_nil, By]
              rw [← h1]
              congr 2)
            go_wp2_with (at_builtin; refine wpList_append_own_at _ rfl _ _ _ rfl (w.heap.size + 1) 5 i0 (.int .u8 0) 1 1 Try.underlying86 HI0.out.1 HI0.out.2.1 HI0.out.2.2.1 HI0.out.2.2.2 rfl (by decide) _ _ _ rfl (hown5.out.alloc _) ⟨wo.heap.size, 0, none⟩ 1 1 [.int .u8 (48 + (rt : Int) % 10)] rfl rfl ?c1 ?c2 ?c3 ?c4 ?c5 ?_)
            case c1 =>
              intro j9 u9 hu9
              have hj0 : j9 = 0 := by
                rcases Nat.eq_zero_or_pos j9 with h | h
                · exact h
                · simp [List.getElem?_eq_none (show [Value.int IntKind.u8 (48 + (rt : Int) % 10)].length ≤ j9 by simp; omega)] at hu9
              subst hj0
              simp only [List.getElem?_cons_zero, Option.some.injEq] at hu9
              subst hu9
              rw [Addr.add_lit, Nat.add_zero, cell_of_row _ _ _ _ _ _ (heap_alloc_new wo _)]
              rfl
            case c2 => intro u9 hu9; simp at hu9; subst hu9; rfl
            case c3 => unfold maxLen; omega
            case c4 => omega
            case c5 => have := hsz5.out; simp; omega
            intro v6 w6 hown6 hgrow6 _ hat6
            have hne6 : some w.heap.size ≠ u3.ownBlock := fun e => by have h9 := (hown5.out.lt _ e.symm).1; omega
            have HO6 : Hid (w6.ownsRow (w.heap.size + 1) 5 1 v6 (9 * j + (t + 1)) ((bw x (9 * j + (t + 1))).map By)) := Lib.hid (by
              have h9 := hown6
              rw [hstep.out] at h9
              exact h9)
            have HB6 : Hid (Blk w6 w.heap.size 40 L2) := Lib.hid (by
              have h8 : Blk (wo.alloc (Obj.cells #[Value.int IntKind.u8 (48 + (rt : Int) % 10)] 5)) w.heap.size 40 L2 := (Below.heap_alloc _ _ _ hblk5.out.lt).trans hblk5.out
              exact (hgrow6.block _ (by have := hsz5.out; simp; omega) hne6).trans h8)
            have HBel6 : Hid (Below w.heap.size w w6) := Lib.hid ((hbel5.out.alloc (by have := hsz5.out; omega) _).grown hgrow6 (by have := hsz5.out; simp; omega) (fun k hk => by have h9 := (hown5.out.lt _ hk).1; omega))
            have HS6 : Hid (w.heap.size + 1 ≤ w6.heap.size) := Lib.hid (by have h9 := hgrow6.size; have := hsz5.out; simp at h9; omega)
            clear hown6 hgrow6 hat6 hne6
            go_wp2_with fail
            go_roundw
            case rel => exact ⟨t + 1, rt / 10, by omega, by go_num, by go_num, by omega, Lib.hid (by rw [hrtv.out, Nat.div_div_eq_div_mul, Nat.pow_succ]), HO6, HB6, HBel6, HS6⟩
            case measure => simp [intOf]; omega
          · obtain rfl : t = 9 := by omega
            have hI9 : IsW wo (.slice (some ⟨w.heap.size, 0, none⟩) (L2.take nc).length nc) (L2.take nc) := by
              have h9 := hblk5.out.isW HL2w.out 0 nc nc (by have := HL2l.out; have := hLn.out; have := hLl.out; have := HNC.out; omega) (Nat.le_refl _) (by have := HL2l.out; have := hLn.out; have := hLl.out; have := HNC.out; have := HL.out; omega)
              rw [List.drop_zero] at h9
              have h8 : (L2.take nc).length = nc := by rw [List.length_take]; have := HL2l.out; have := hLn.out; have := hLl.out; have := HNC.out; omega
              rw [h8]; exact h9
            have hvt : Hid (val (L2.take nc) = cur / 1000000000) := Lib.hid (by
              have h9 := HV4.out
              rw [← h9]
              simp [pv])
            have hln9 : Hid ((L2.take nc).length = nc) := Lib.hid (by rw [List.length_take]; have := HL2l.out; have := hLn.out; have := hLl.out; have := HNC.out; omega)
            have HT := Lib.hid (trim_x hI9)
            rw [hvt.out, hln9.out] at HT
            clear hI9
            go_wp2_with fail
            refine HT.out.mono ?_
            rintro en w6 ⟨rfl, rfl⟩
            go_wp2_with fail
            go_roundg (cur / 1000000000)
            case measure => have := HC0.out; omega
            case rel =>
              refine ⟨j + 1, L2, Lib.hid ?_, Lib.hid ?_, by omega, rfl, hblk5, HL2w, HL2l, Lib.hid ?_, Lib.hid ?_, Lib.hid (by have h9 := hown5.out; rwa [show 9 * j + 9 = 9 * (j + 1) by omega] at h9), hbel5, hsz5⟩
              · rw [hg.out, Nat.div_div_eq_div_mul, show 9 * (j + 1) = 9 * j + 9 by omega, Nat.pow_add]
              · refine Nat.le_trans ?_ hgx.out
                rw [Nat.pow_succ, Nat.mul_comm (2 ^ j), ← Nat.mul_assoc]
                refine Nat.mul_le_mul_right _ ?_
                omega
              · have h9 := digs_prefix (l := L2.take nc) (ws_take HL2w.out nc)
                rw [hvt.out] at h9
                have h8 : (digs (cur / 1000000000)).length ≤ nc := by rw [HNC.out]; exact len_digs_mono (Nat.div_le_self _ _)
                rw [List.take_take, Nat.min_eq_left h8] at h9
                exact h9.symm
              · have h8 : (digs (cur / 1000000000)).length ≤ nc := by rw [HNC.out]; exact len_digs_mono (Nat.div_le_self _ _)
                have := HL2l.out; have := hLn.out; have := hLl.out; have := HNC.out; omega
end Go.Proofs.Ytebgkfcglmjokaa

/- Fractions as texts: bytes put behind one another, bytes as a string. -/
namespace Go.Proofs.Ytebgkfcglmjokaa
open Go.RowKit

/-- Bytes as a string. -/
def strL (L : List Nat) : ByteArray := ⟨(L.map UInt8.ofNat).toArray⟩
/-- A row of bytes of the call's own. -/
def OwnB (w : World) (base : Nat) (v : Value) (L : List Nat) : Prop := w.ownsRow base 5 1 v L.length (L.map By)
theorem OwnB.below {w w' : World} {base : Nat} {v : Value} {L : List Nat} (h : OwnB w base v L) (hb : Below w.heap.size w w') : OwnB w' base v L := by
  refine World.ownsRow.kept (row := none) h ⟨hb.os, hb.tape, hb.output, hb.size, fun k hk _ => hb.block k hk⟩ ?_
  cases hv : v.ownBlock <;> simp
theorem OwnB.nil (w : World) (base : Nat) : OwnB w base (.slice none 0 0) [] := World.ownsRow_nil w base _ 1
theorem OwnB.form {w : World} {base : Nat} {v : Value} {L : List Nat} (h : OwnB w base v L) (hL : L ≠ []) : ∃ g cap, v = .slice (some ⟨g, 0, none⟩) L.length cap ∧ ∀ j u, (L.map By)[j]? = some u → w.cell? ((⟨g, 0, none⟩ : Addr).add j) = some u := by
  have hc := fun g hg => World.ownsRow.cells h (g := g) hg
  rcases h.2 with ⟨rfl, h0⟩ | ⟨g, cap, cur, rfl, _, _, _, _, _, _⟩
  · exact absurd (List.eq_nil_of_length_eq_zero h0) hL
  · exact ⟨g, cap, rfl, hc g rfl⟩

theorem wpList_app_bytes {P : Program} {w0 w : World} {ops : Array Oper} {rest : List Oper} {o : Oper} {a : Act} {Q : Exit → Act → World → Prop} (hgd : o.guard = none) (s x : Operand) (t : TypeId)
    (ho : o.op = .call { callee := .builtin .append, args := #[s, x], argTypes := #[t, t] }) (ht : P.underlying t = some (.slice 5))
    (hi : (P.info? 5).map (fun i => (i.zero, i.size, i.bytes)) = some (some (.int .u8 0), 1, 1))
    (v : Value) (L : List Nat) (hs : a.eval s = v) (hown : OwnB w w0.heap.size v L) (hb : Below w0.heap.size w0 w)
    (g m c : Nat) (M : List Nat) (hx : a.eval x = .slice (some ⟨g, 0, none⟩) m c) (hm : M.length = m) (hcell : ∀ j u, (M.map By)[j]? = some u → w.cell? ((⟨g, 0, none⟩ : Addr).add j) = some u)
    (h63 : L.length + m ≤ 1000000)
    (h : ∀ v' w', OwnB w' w0.heap.size v' (L ++ M) → Below w0.heap.size w0 w' → wpList P ops Q rest (a.put o.dst v') w') : wpList P ops Q (o :: rest) a w := by
  obtain ⟨i, hi, hz, hs1, hb1⟩ := info_parts hi
  subst hm
  refine wpList_append_own_at w hgd s x t ho w0.heap.size 5 i (.int .u8 0) 1 1 ht hi hz hs1 hb1 rfl (by decide) v L.length (L.map By) hs hown ⟨g, 0, none⟩ M.length c (M.map By) hx (by simp) hcell ?_ (by unfold maxLen; omega) (by omega) hb.size ?_
  · intro u hu
    obtain ⟨n, _, rfl⟩ := List.mem_map.1 hu
    rfl
  · intro v' w' hown' hgrow _ _
    refine h v' w' ?_ (hb.grown hgrow hb.size (fun k hk => (World.ownsRow.lt hown k hk).1))
    unfold OwnB
    rw [List.length_append, List.map_append]
    exact hown'

theorem foldl_push (ns : List Nat) : ∀ s : ByteArray, (ns.map (fun n : Nat => (n : Int))).foldl (fun r n => r.push (UInt8.ofNat n.toNat)) s = ⟨s.data ++ (ns.map UInt8.ofNat).toArray⟩ := by
  induction ns with
  | nil => intro s; simp
  | cons n ns ih =>
    intro s
    simp only [List.map_cons, List.foldl_cons, Int.toNat_natCast]
    rw [ih]
    simp [ByteArray.push]
theorem run_bytes_string {w : World} {base : Nat} {v : Value} {L : List Nat} (h : OwnB w base v L) (hL : L ≠ []) :
    (convert 86 9 v).run Try.prog w = .ok (.string (strL L)) w := by
  obtain ⟨g, cap, rfl, hc⟩ := h.form hL
  rw [run_convert_bytes_string w 86 9 5 _ _ _ Try.underlying86 Try.underlying5 Try.underlying9]
  have hl := run_loadCells_list (P := Try.prog) (w := w) ⟨g, 0, none⟩ (L.map By) hc
  rw [List.length_map] at hl
  have e : L.map By = (L.map (fun n : Nat => (n : Int))).map (Value.int .u8) := by rw [List.map_map]; rfl
  rw [e] at hl
  rw [run_bytesToString w ⟨g, 0, none⟩ L.length cap _ hl, foldl_push]
  unfold strL
  simp

/-- A fraction as text. -/
def tailL (q : Rat) : List Nat := if q.den = 1 then [] else 47 :: decS q.den
def headL (b : Bool) : List Nat := if b then [45] else []
def printL (q : Rat) : List Nat := headL (decide (q.num < 0)) ++ decS q.num.natAbs ++ tailL q
end Go.Proofs.Ytebgkfcglmjokaa

/- frac.Print: the walk. -/
namespace Go.Proofs.Ytebgkfcglmjokaa
open Go.RowKit

theorem own_form {w : World} {base : Nat} {v : Value} {L : List Nat} (h : OwnB w base v L) : ∃ g n c, v = .slice g n c := by
  rcases h.2 with ⟨rfl, _⟩ | ⟨g, cap, cur, rfl, _⟩
  · exact ⟨_, _, _, rfl⟩
  · exact ⟨_, _, _, rfl⟩
theorem rat_one' {b : Bool} {a i : Option Addr} {n c j k : Nat} : ∀ v ∈ (#[Value.slice a n c, Value.bool b, Value.slice i j k] : Array Value).toList, v.oneCell' = true := by
  intro v hv; simp at hv; rcases hv with rfl | rfl | rfl <;> rfl

theorem dec_ne (x : Nat) : decS x ≠ [] := by
  unfold decS
  by_cases h : x = 0
  · rw [if_pos h]; simp
  · rw [if_neg h]
    intro e
    have h1 := congrArg List.length e
    rw [List.length_reverse, bw_len, ndig_pos h] at h1
    simp at h1
theorem dec_len {x : Nat} (h : (digs x).length ≤ 4096) : (decS x).length ≤ 50000 := by
  unfold decS
  by_cases h0 : x = 0
  · rw [if_pos h0]; simp
  · rw [if_neg h0, List.length_reverse, bw_len]
    have h1 : x < 4294967296 ^ (digs x).length := len_digs_le.1 (Nat.le_refl _)
    generalize (digs x).length = n at h h1
    have h2 : 4294967296 ^ n ≤ (10 ^ 11) ^ n := Nat.pow_le_pow_left (by decide) n
    rw [← Nat.pow_mul] at h2
    have h3 : ndig x ≤ 11 * n := ndig_le.2 (Nat.lt_of_lt_of_le h1 h2)
    omega

set_option maxRecDepth 4000 in
set_option maxHeartbeats 2000000 in
theorem print_w {w : World} {v : Value} {b : Bool} {l m : List Nat} (hv : RawF w v b l m) :
    Calls Try.prog 41 #[v] w fun e w' => e = .returned (.string (strL (printL (fixR b l m)))) ∧ Below w.heap.size w w' := by
  have HV := Lib.hid hv
  have HL1 : Hid (lenQ (fixR b l m) ≤ 4096) := Lib.hid (by obtain ⟨u, d, rfl, hu, hd⟩ := hv; exact fix_len hu.ws hd.ws)
  obtain ⟨u, d, rfl, hu, hd⟩ := hv
  obtain ⟨va, vn, vc, hve⟩ := hu.form
  subst hve
  obtain ⟨ea, en, ec, hee⟩ := hd.form
  subst hee
  clear hu hd
  obtain ⟨P, hP⟩ : ∃ P, P = fixR b l m := ⟨_, rfl⟩
  have HP := Lib.hid hP
  rw [← hP] at HL1
  rw [← hP]
  clear hP
  have HLN : Hid ((digs P.num.natAbs).length ≤ 4096) := Lib.hid (by have := num_len P; have := HL1.out; omega)
  have HLD : Hid ((digs P.den).length ≤ 4096) := Lib.hid (by have := den_len P; have := HL1.out; omega)
  have HDN : Hid ((decS P.num.natAbs).length ≤ 50000) := Lib.hid (dec_len HLN.out)
  have HDD : Hid ((decS P.den).length ≤ 50000) := Lib.hid (dec_len HLD.out)
  have HB0 : Hid (∀ o, Below w.heap.size w (w.alloc o)) := Lib.hid (fun o => (Below.refl _ _).alloc (Nat.le_refl _) o)
  obtain ⟨bn, hbn⟩ : ∃ x, x = decide (P.num < 0) := ⟨_, rfl⟩
  have HBN := Lib.hid hbn
  have HPL0 : Hid (printL P = headL bn ++ decS P.num.natAbs ++ tailL P) := Lib.hid (by unfold printL; rw [hbn])
  clear hbn
  by_cases hone : P.den = 1
  · have HON : Hid (oneB P.den = true) := Lib.hid (by unfold oneB; simpa using hone)
    have HTL : Hid (tailL P = []) := Lib.hid (by unfold tailL; rw [if_pos hone])
    clear hone
    cases bn with
    | true =>
      have HPL : Hid (printL P = [45] ++ decS P.num.natAbs) := Lib.hid (by rw [HPL0.out, HTL.out]; simp [headL])
      go_enter Try.func41, Try.ntmps41
      go_wp2_with fail
      refine (read_w (HV.out.below (HB0.out _))).mono ?_
      rw [← HP.out]
      rintro en1 w1 ⟨⟨r1, rfl, u1, d1, rfl, hu1, hd1⟩, hb1⟩
      obtain ⟨ua, un, uc, hue⟩ := hu1.form
      subst hue
      obtain ⟨da, dn, dc, hde⟩ := hd1.form
      subst hde
      have HU1 := Lib.hid hu1
      have HD1 := Lib.hid hd1
      have HB1 := Lib.hid (below_trans (HB0.out _) hb1)
      rw [← HBN.out]
      clear hu1 hd1 hb1
      go_wp2_with ((with_reducible refine at_store ?_); refine wpList_store_var rfl _ _ _ rfl w1.heap.size rfl _ rfl _ _ (heap_alloc_new _ _) irat rfl rat_one' ?_; intro w2 h2 hon2; refine halt ?_)
      have hb2 : Below w1.heap.size w1 w2 := below_only ((Below.refl _ _).alloc (Nat.le_refl _) _) hon2 (Nat.le_refl _)
      have RR := Lib.hid (cells_later h2)
      have HU2 := Lib.hid (HU1.out.below hb2)
      have HD2 := Lib.hid (HD1.out.below hb2)
      have HB2 := Lib.hid (below_trans HB1.out hb2)
      have hz2 := Below.refl w2.heap.size w2
      clear h2 hon2 hb2
      refine go_on ?_
      have s0 := RR.out 0 _ rfl _ hz2
      have s1 := RR.out 1 _ rfl _ hz2
      have s2 := RR.out 2 _ rfl _ hz2
      have hz2a : Below w2.heap.size w2 (w2.alloc (Obj.cells #[Value.int .u8 45] 5)) := hz2.alloc (Nat.le_refl _) _
      go_wp2_with (at_builtin; refine wpList_app_bytes (w0 := w2) rfl _ _ _ rfl Try.underlying86 iu8 _ [] rfl (OwnB.nil _ _) hz2a w2.heap.size 1 1 [45] rfl rfl (cell_one_new _ _ _) (by simp) ?_; intro v3 w3 ho3 hz3; refine halt ?_)
      rw [List.nil_append] at ho3
      have HO3 := Lib.hid ho3
      clear ho3
      obtain ⟨g3, n3, c3, hq3⟩ : ∃ g n c, v3 = .slice g n c := own_form HO3.out
      subst hq3
      clear s0 s1 s2
      have s0 := RR.out 0 _ rfl _ hz3
      have s1 := RR.out 1 _ rfl _ hz3
      have s2 := RR.out 2 _ rfl _ hz3
      refine go_on ?_
      go_wp2_with fail
      refine (digits_w (HU2.out.below hz3) (by have := HLN.out; omega)).mono ?_
      rintro en4 w4 ⟨⟨r4, rfl, ho4⟩, hb4⟩
      have hz4 := below_trans hz3 hb4
      obtain ⟨g4, c4, rfl, hcl4⟩ := OwnB.form ho4 (dec_ne _)
      have HO4 := Lib.hid (HO3.out.below hb4)
      have HC4 := Lib.hid hcl4
      clear ho4 hcl4
      go_wp2_with (at_builtin; refine wpList_app_bytes (w0 := w2) rfl _ _ _ rfl Try.underlying86 iu8 _ [45] rfl HO4.out hz4 g4 _ c4 _ rfl rfl HC4.out (by have := HDN.out; simp; omega) ?_; intro v5 w5 ho5 hz5; refine halt ?_)
      have HO5 := Lib.hid ho5
      clear ho5
      obtain ⟨g5, n5, c5, hq5⟩ : ∃ g n c, v5 = .slice g n c := own_form HO5.out
      subst hq5
      clear s0 s1 s2
      have s0 := RR.out 0 _ rfl _ hz5
      have s1 := RR.out 1 _ rfl _ hz5
      have s2 := RR.out 2 _ rfl _ hz5
      refine go_on ?_
      go_wp2_with fail
      refine (isOne_w (HD2.out.below hz5)).mono ?_
      rintro en6 w6 ⟨rfl, rfl⟩
      rw [HON.out]
      have hcv := run_bytes_string HO5.out (by simp)
      go_wp2_with fail
      go_ret
      exact ⟨by rw [HPL.out]; simp, below_trans HB2.out hz5⟩
    | false =>
      have HPL : Hid (printL P = [] ++ decS P.num.natAbs) := Lib.hid (by rw [HPL0.out, HTL.out]; simp [headL])
      go_enter Try.func41, Try.ntmps41
      go_wp2_with fail
      refine (read_w (HV.out.below (HB0.out _))).mono ?_
      rw [← HP.out]
      rintro en1 w1 ⟨⟨r1, rfl, u1, d1, rfl, hu1, hd1⟩, hb1⟩
      obtain ⟨ua, un, uc, hue⟩ := hu1.form
      subst hue
      obtain ⟨da, dn, dc, hde⟩ := hd1.form
      subst hde
      have HU1 := Lib.hid hu1
      have HD1 := Lib.hid hd1
      have HB1 := Lib.hid (below_trans (HB0.out _) hb1)
      rw [← HBN.out]
      clear hu1 hd1 hb1
      go_wp2_with ((with_reducible refine at_store ?_); refine wpList_store_var rfl _ _ _ rfl w1.heap.size rfl _ rfl _ _ (heap_alloc_new _ _) irat rfl rat_one' ?_; intro w2 h2 hon2; refine halt ?_)
      have hb2 : Below w1.heap.size w1 w2 := below_only ((Below.refl _ _).alloc (Nat.le_refl _) _) hon2 (Nat.le_refl _)
      have RR := Lib.hid (cells_later h2)
      have HU2 := Lib.hid (HU1.out.below hb2)
      have HD2 := Lib.hid (HD1.out.below hb2)
      have HB2 := Lib.hid (below_trans HB1.out hb2)
      have hz2 := Below.refl w2.heap.size w2
      clear h2 hon2 hb2
      refine go_on ?_
      have s0 := RR.out 0 _ rfl _ hz2
      have s1 := RR.out 1 _ rfl _ hz2
      have s2 := RR.out 2 _ rfl _ hz2
      have HO3 : Hid (OwnB w2 w2.heap.size (.slice none 0 0) []) := Lib.hid (OwnB.nil _ _)
      go_wp2_with fail
      refine (digits_w (HU2.out.below hz2) (by have := HLN.out; omega)).mono ?_
      rintro en4 w4 ⟨⟨r4, rfl, ho4⟩, hb4⟩
      have hz4 := below_trans hz2 hb4
      obtain ⟨g4, c4, rfl, hcl4⟩ := OwnB.form ho4 (dec_ne _)
      have HO4 := Lib.hid (HO3.out.below hb4)
      have HC4 := Lib.hid hcl4
      clear ho4 hcl4
      go_wp2_with (at_builtin; refine wpList_app_bytes (w0 := w2) rfl _ _ _ rfl Try.underlying86 iu8 _ [] rfl HO4.out hz4 g4 _ c4 _ rfl rfl HC4.out (by have := HDN.out; simp; omega) ?_; intro v5 w5 ho5 hz5; refine halt ?_)
      have HO5 := Lib.hid ho5
      clear ho5
      obtain ⟨g5, n5, c5, hq5⟩ : ∃ g n c, v5 = .slice g n c := own_form HO5.out
      subst hq5
      clear s0 s1 s2
      have s0 := RR.out 0 _ rfl _ hz5
      have s1 := RR.out 1 _ rfl _ hz5
      have s2 := RR.out 2 _ rfl _ hz5
      refine go_on ?_
      go_wp2_with fail
      refine (isOne_w (HD2.out.below hz5)).mono ?_
      rintro en6 w6 ⟨rfl, rfl⟩
      rw [HON.out]
      have hcv := run_bytes_string HO5.out (by simp [dec_ne])
      go_wp2_with fail
      go_ret
      exact ⟨by rw [HPL.out]; simp, below_trans HB2.out hz5⟩
  · have HON : Hid (oneB P.den = false) := Lib.hid (by unfold oneB; simpa using hone)
    have HTL : Hid (tailL P = 47 :: decS P.den) := Lib.hid (by unfold tailL; rw [if_neg hone])
    clear hone
    cases bn with
    | true =>
      have HPL : Hid (printL P = [45] ++ decS P.num.natAbs ++ [47] ++ decS P.den) := Lib.hid (by rw [HPL0.out, HTL.out]; simp [headL])
      go_enter Try.func41, Try.ntmps41
      go_wp2_with fail
      refine (read_w (HV.out.below (HB0.out _))).mono ?_
      rw [← HP.out]
      rintro en1 w1 ⟨⟨r1, rfl, u1, d1, rfl, hu1, hd1⟩, hb1⟩
      obtain ⟨ua, un, uc, hue⟩ := hu1.form
      subst hue
      obtain ⟨da, dn, dc, hde⟩ := hd1.form
      subst hde
      have HU1 := Lib.hid hu1
      have HD1 := Lib.hid hd1
      have HB1 := Lib.hid (below_trans (HB0.out _) hb1)
      rw [← HBN.out]
      clear hu1 hd1 hb1
      go_wp2_with ((with_reducible refine at_store ?_); refine wpList_store_var rfl _ _ _ rfl w1.heap.size rfl _ rfl _ _ (heap_alloc_new _ _) irat rfl rat_one' ?_; intro w2 h2 hon2; refine halt ?_)
      have hb2 : Below w1.heap.size w1 w2 := below_only ((Below.refl _ _).alloc (Nat.le_refl _) _) hon2 (Nat.le_refl _)
      have RR := Lib.hid (cells_later h2)
      have HU2 := Lib.hid (HU1.out.below hb2)
      have HD2 := Lib.hid (HD1.out.below hb2)
      have HB2 := Lib.hid (below_trans HB1.out hb2)
      have hz2 := Below.refl w2.heap.size w2
      clear h2 hon2 hb2
      refine go_on ?_
      have s0 := RR.out 0 _ rfl _ hz2
      have s1 := RR.out 1 _ rfl _ hz2
      have s2 := RR.out 2 _ rfl _ hz2
      have hz2a : Below w2.heap.size w2 (w2.alloc (Obj.cells #[Value.int .u8 45] 5)) := hz2.alloc (Nat.le_refl _) _
      go_wp2_with (at_builtin; refine wpList_app_bytes (w0 := w2) rfl _ _ _ rfl Try.underlying86 iu8 _ [] rfl (OwnB.nil _ _) hz2a w2.heap.size 1 1 [45] rfl rfl (cell_one_new _ _ _) (by simp) ?_; intro v3 w3 ho3 hz3; refine halt ?_)
      rw [List.nil_append] at ho3
      have HO3 := Lib.hid ho3
      clear ho3
      obtain ⟨g3, n3, c3, hq3⟩ : ∃ g n c, v3 = .slice g n c := own_form HO3.out
      subst hq3
      clear s0 s1 s2
      have s0 := RR.out 0 _ rfl _ hz3
      have s1 := RR.out 1 _ rfl _ hz3
      have s2 := RR.out 2 _ rfl _ hz3
      refine go_on ?_
      go_wp2_with fail
      refine (digits_w (HU2.out.below hz3) (by have := HLN.out; omega)).mono ?_
      rintro en4 w4 ⟨⟨r4, rfl, ho4⟩, hb4⟩
      have hz4 := below_trans hz3 hb4
      obtain ⟨g4, c4, rfl, hcl4⟩ := OwnB.form ho4 (dec_ne _)
      have HO4 := Lib.hid (HO3.out.below hb4)
      have HC4 := Lib.hid hcl4
      clear ho4 hcl4
      go_wp2_with (at_builtin; refine wpList_app_bytes (w0 := w2) rfl _ _ _ rfl Try.underlying86 iu8 _ [45] rfl HO4.out hz4 g4 _ c4 _ rfl rfl HC4.out (by have := HDN.out; simp; omega) ?_; intro v5 w5 ho5 hz5; refine halt ?_)
      have HO5 := Lib.hid ho5
      clear ho5
      obtain ⟨g5, n5, c5, hq5⟩ : ∃ g n c, v5 = .slice g n c := own_form HO5.out
      subst hq5
      clear s0 s1 s2
      have s0 := RR.out 0 _ rfl _ hz5
      have s1 := RR.out 1 _ rfl _ hz5
      have s2 := RR.out 2 _ rfl _ hz5
      refine go_on ?_
      go_wp2_with fail
      refine (isOne_w (HD2.out.below hz5)).mono ?_
      rintro en6 w6 ⟨rfl, rfl⟩
      rw [HON.out]
      have hz5a : Below w2.heap.size w2 (w5.alloc (Obj.cells #[Value.int .u8 47] 5)) := hz5.alloc hz5.size _
      go_wp2_with (at_builtin; refine wpList_app_bytes (w0 := w2) rfl _ _ _ rfl Try.underlying86 iu8 _ _ rfl (HO5.out.below ((Below.refl _ _).alloc (Nat.le_refl _) _)) hz5a w5.heap.size 1 1 [47] rfl rfl (cell_one_new _ _ _) (by have := HDN.out; simp; omega) ?_; intro v7 w7 ho7 hz7; refine halt ?_)
      have HO7 := Lib.hid ho7
      clear ho7
      obtain ⟨g7, n7, c7, hq7⟩ : ∃ g n c, v7 = .slice g n c := own_form HO7.out
      subst hq7
      clear s0 s1 s2
      have s0 := RR.out 0 _ rfl _ hz7
      have s1 := RR.out 1 _ rfl _ hz7
      have s2 := RR.out 2 _ rfl _ hz7
      refine go_on ?_
      go_wp2_with fail
      refine (digits_w (HD2.out.below hz7) (by have := HLD.out; omega)).mono ?_
      rintro en8 w8 ⟨⟨r8, rfl, ho8⟩, hb8⟩
      have hz8 := below_trans hz7 hb8
      obtain ⟨g8, c8, rfl, hcl8⟩ := OwnB.form ho8 (dec_ne _)
      have HO8 := Lib.hid (HO7.out.below hb8)
      have HC8 := Lib.hid hcl8
      clear ho8 hcl8
      go_wp2_with (at_builtin; refine wpList_app_bytes (w0 := w2) rfl _ _ _ rfl Try.underlying86 iu8 _ _ rfl HO8.out hz8 g8 _ c8 _ rfl rfl HC8.out (by have := HDN.out; have := HDD.out; simp; omega) ?_; intro v9 w9 ho9 hz9; refine halt ?_)
      have HO9 := Lib.hid ho9
      clear ho9
      obtain ⟨g9, n9, c9, hq9⟩ : ∃ g n c, v9 = .slice g n c := own_form HO9.out
      subst hq9
      clear s0 s1 s2
      refine go_on ?_
      have hcv := run_bytes_string HO9.out (by simp)
      go_wp2_with fail
      go_ret
      exact ⟨by rw [HPL.out]; simp, below_trans HB2.out hz9⟩
    | false =>
      have HPL : Hid (printL P = [] ++ decS P.num.natAbs ++ [47] ++ decS P.den) := Lib.hid (by rw [HPL0.out, HTL.out]; simp [headL])
      go_enter Try.func41, Try.ntmps41
      go_wp2_with fail
      refine (read_w (HV.out.below (HB0.out _))).mono ?_
      rw [← HP.out]
      rintro en1 w1 ⟨⟨r1, rfl, u1, d1, rfl, hu1, hd1⟩, hb1⟩
      obtain ⟨ua, un, uc, hue⟩ := hu1.form
      subst hue
      obtain ⟨da, dn, dc, hde⟩ := hd1.form
      subst hde
      have HU1 := Lib.hid hu1
      have HD1 := Lib.hid hd1
      have HB1 := Lib.hid (below_trans (HB0.out _) hb1)
      rw [← HBN.out]
      clear hu1 hd1 hb1
      go_wp2_with ((with_reducible refine at_store ?_); refine wpList_store_var rfl _ _ _ rfl w1.heap.size rfl _ rfl _ _ (heap_alloc_new _ _) irat rfl rat_one' ?_; intro w2 h2 hon2; refine halt ?_)
      have hb2 : Below w1.heap.size w1 w2 := below_only ((Below.refl _ _).alloc (Nat.le_refl _) _) hon2 (Nat.le_refl _)
      have RR := Lib.hid (cells_later h2)
      have HU2 := Lib.hid (HU1.out.below hb2)
      have HD2 := Lib.hid (HD1.out.below hb2)
      have HB2 := Lib.hid (below_trans HB1.out hb2)
      have hz2 := Below.refl w2.heap.size w2
      clear h2 hon2 hb2
      refine go_on ?_
      have s0 := RR.out 0 _ rfl _ hz2
      have s1 := RR.out 1 _ rfl _ hz2
      have s2 := RR.out 2 _ rfl _ hz2
      have HO3 : Hid (OwnB w2 w2.heap.size (.slice none 0 0) []) := Lib.hid (OwnB.nil _ _)
      go_wp2_with fail
      refine (digits_w (HU2.out.below hz2) (by have := HLN.out; omega)).mono ?_
      rintro en4 w4 ⟨⟨r4, rfl, ho4⟩, hb4⟩
      have hz4 := below_trans hz2 hb4
      obtain ⟨g4, c4, rfl, hcl4⟩ := OwnB.form ho4 (dec_ne _)
      have HO4 := Lib.hid (HO3.out.below hb4)
      have HC4 := Lib.hid hcl4
      clear ho4 hcl4
      go_wp2_with (at_builtin; refine wpList_app_bytes (w0 := w2) rfl _ _ _ rfl Try.underlying86 iu8 _ [] rfl HO4.out hz4 g4 _ c4 _ rfl rfl HC4.out (by have := HDN.out; simp; omega) ?_; intro v5 w5 ho5 hz5; refine halt ?_)
      have HO5 := Lib.hid ho5
      clear ho5
      obtain ⟨g5, n5, c5, hq5⟩ : ∃ g n c, v5 = .slice g n c := own_form HO5.out
      subst hq5
      clear s0 s1 s2
      have s0 := RR.out 0 _ rfl _ hz5
      have s1 := RR.out 1 _ rfl _ hz5
      have s2 := RR.out 2 _ rfl _ hz5
      refine go_on ?_
      go_wp2_with fail
      refine (isOne_w (HD2.out.below hz5)).mono ?_
      rintro en6 w6 ⟨rfl, rfl⟩
      rw [HON.out]
      have hz5a : Below w2.heap.size w2 (w5.alloc (Obj.cells #[Value.int .u8 47] 5)) := hz5.alloc hz5.size _
      go_wp2_with (at_builtin; refine wpList_app_bytes (w0 := w2) rfl _ _ _ rfl Try.underlying86 iu8 _ _ rfl (HO5.out.below ((Below.refl _ _).alloc (Nat.le_refl _) _)) hz5a w5.heap.size 1 1 [47] rfl rfl (cell_one_new _ _ _) (by have := HDN.out; simp; omega) ?_; intro v7 w7 ho7 hz7; refine halt ?_)
      have HO7 := Lib.hid ho7
      clear ho7
      obtain ⟨g7, n7, c7, hq7⟩ : ∃ g n c, v7 = .slice g n c := own_form HO7.out
      subst hq7
      clear s0 s1 s2
      have s0 := RR.out 0 _ rfl _ hz7
      have s1 := RR.out 1 _ rfl _ hz7
      have s2 := RR.out 2 _ rfl _ hz7
      refine go_on ?_
      go_wp2_with fail
      refine (digits_w (HD2.out.below hz7) (by have := HLD.out; omega)).mono ?_
      rintro en8 w8 ⟨⟨r8, rfl, ho8⟩, hb8⟩
      have hz8 := below_trans hz7 hb8
      obtain ⟨g8, c8, rfl, hcl8⟩ := OwnB.form ho8 (dec_ne _)
      have HO8 := Lib.hid (HO7.out.below hb8)
      have HC8 := Lib.hid hcl8
      clear ho8 hcl8
      go_wp2_with (at_builtin; refine wpList_app_bytes (w0 := w2) rfl _ _ _ rfl Try.underlying86 iu8 _ _ rfl HO8.out hz8 g8 _ c8 _ rfl rfl HC8.out (by have := HDN.out; have := HDD.out; simp; omega) ?_; intro v9 w9 ho9 hz9; refine halt ?_)
      have HO9 := Lib.hid ho9
      clear ho9
      obtain ⟨g9, n9, c9, hq9⟩ : ∃ g n c, v9 = .slice g n c := own_form HO9.out
      subst hq9
      clear s0 s1 s2
      refine go_on ?_
      have hcv := run_bytes_string HO9.out (by simp)
      go_wp2_with fail
      go_ret
      exact ⟨by rw [HPL.out]; simp, below_trans HB2.out hz9⟩
end Go.Proofs.Ytebgkfcglmjokaa

/- half, of the statements. -/
namespace Go.Proofs.Ytebgkfcglmjokaa
open Go.RowKit

theorem print_f {w : World} {x : Value} {P : Rat} (hx : InF w x P) : Calls Try.prog 41 #[x] w fun e w' => e = .returned (.string (strL (printL P))) ∧ Below w.heap.size w w' := by
  obtain ⟨b, l, m, h, rfl⟩ := hx
  exact print_w h
theorem dec_small {n : Nat} (h0 : n ≠ 0) (h : n < 10) : decS n = [48 + n] := by
  have h1 : n / 10 = 0 := by omega
  unfold decS
  rw [if_neg h0, ndig_pos h0, h1, ndig_zero]
  simp [bw]
  omega
theorem half_make : makeQ (-2) (-4) = mkRat 1 2 := by decide +kernel
theorem half_print : strL (printL (mkRat 1 2)) = ⟨#[49, 47, 50]⟩ := by
  have e1 : (mkRat 1 2).num = 1 := by decide +kernel
  have e2 : (mkRat 1 2).den = 2 := by decide +kernel
  have h1 : decS 1 = [49] := dec_small (by decide) (by decide)
  have h2 : decS 2 = [50] := dec_small (by decide) (by decide)
  unfold printL tailL
  rw [e1, e2]
  show strL ([] ++ decS 1 ++ 47 :: decS 2) = _
  rw [h1, h2]
  rfl
theorem half_len : lenQ (mkRat 1 2) ≤ 4096 := by
  have e1 : (mkRat 1 2).num = 1 := by decide +kernel
  have e2 : (mkRat 1 2).den = 2 := by decide +kernel
  have h1 : (digs (1 : Int).natAbs).length ≤ 1 := len_digs_le.2 (by decide)
  have h2 : (digs 2).length ≤ 1 := len_digs_le.2 (by decide)
  unfold lenQ
  rw [e1, e2]
  omega

set_option maxRecDepth 4000 in
set_option maxHeartbeats 1000000 in
theorem half_w {w : World} : Calls Try.prog 19 #[] w fun e w' => e = .returned (.bool true) ∧ Below w.heap.size w w' := by
  have KM : Hid (Calls Try.prog 20 #[.int .i64 (-2), .int .i64 (-4)] w fun e w' => (∃ r, e = .returned (.tuple #[r, .int .i64 0]) ∧ FracV w' r (mkRat 1 2) ∧ NewF w r) ∧ Below w.heap.size w w') := Lib.hid (by
    have := make_q (w := w) (-2) (-4) (by decide) (by decide) (by decide) (by decide)
    rw [half_make] at this
    exact this)
  obtain ⟨H, hH⟩ : ∃ q, q = mkRat 1 2 := ⟨_, rfl⟩
  rw [← hH] at KM
  have KP := Lib.hid (fun w' x (h : FracV w' x H) => print_f (h.inF (by rw [hH]; exact half_len)))
  rw [hH, half_print, ← hH] at KP
  clear hH
  go_enter Try.func19, Try.ntmps19
  go_wp2_with fail
  refine KM.out.mono ?_
  rintro en1 w1 ⟨⟨r1, rfl, f1, g1⟩, hb1⟩
  obtain ⟨a1, n1, c1, i1, j1, k1, hq1⟩ := frac_form f1
  subst hq1
  have HF1 := Lib.hid f1
  clear f1 g1
  go_wp2_with ((with_reducible refine at_store ?_); refine wpList_store_var rfl _ _ _ rfl w1.heap.size rfl _ rfl _ _ (heap_alloc_new _ _) ifrac rfl frac_one ?_; intro w2 h2 hon2; refine halt ?_)
  have hb2 : Below w1.heap.size w1 w2 := below_only ((Below.refl _ _).alloc (Nat.le_refl _) _) hon2 (Nat.le_refl _)
  have RR := Lib.hid (cells_later h2)
  have hz2 := Below.refl w2.heap.size w2
  have s0 := RR.out 0 _ rfl _ hz2
  have s1 := RR.out 1 _ rfl _ hz2
  have s2 := RR.out 2 _ rfl _ hz2
  clear h2 hon2
  refine go_on ?_
  go_wp2_with fail
  refine (KP.out _ _ (HF1.out.below hb2)).mono ?_
  rintro en3 w3 ⟨rfl, hb3⟩
  go_wp2_with fail
  go_ret
  exact ⟨rfl, below_trans (below_trans hb1 hb2) hb3⟩
end Go.Proofs.Ytebgkfcglmjokaa
