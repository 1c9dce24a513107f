/- A number's decimal digits: the walk. -/
import Derived.Test.YtlmnicpkncgbiaaSa
import Derived.Deep.AppendLies
namespace Go.Proofs.Ytlmnicpkncgbiaa
open Go.RowKit

/-- A byte as a value. -/
def By (n : Nat) : Value := .int .u8 n
theorem iu8 : (Try.prog.info? 5).map (fun i => (i.zero, i.size, i.bytes)) = some (some (.int .u8 0), 1, 1) := by kernel_rfl

/-- The bytes of a block that is all bytes. -/
def BlkB (w : World) (B : Nat) (e : TypeId) (l : List Nat) : Prop := w.heap[B]? = some (.cells (l.map By).toArray e (0, 0))
theorem BlkB.cell {w : World} {B : Nat} {e : TypeId} {l : List Nat} (h : BlkB w B e l) (j : Nat) (hj : j < l.length) : w.cell? ⟨B, j, none⟩ = some (.int .u8 (nth l j)) := by
  have h' : w.heap[B]? = some (.cells (l.map By).toArray e (0, 0)) := h
  simp [World.cell?, h', By, nth, List.getD_eq_getElem?_getD, List.getElem?_eq_getElem hj]
theorem BlkB.free {w : World} {B : Nat} {e : TypeId} {l : List Nat} (h : BlkB w B e l) (j : Nat) : w.frozen? ⟨B, j, none⟩ = false := by
  have h' : w.heap[B]? = some (.cells (l.map By).toArray e (0, 0)) := h
  simp [World.frozen?, h']
theorem BlkB.setCell {w : World} {B : Nat} {e : TypeId} {l : List Nat} (h : BlkB w B e l) (k x : Nat) (v : Value) (hv : v = By x) : BlkB (w.setCell ⟨B, k, none⟩ v) B e (l.set k x) := by
  have h' : w.heap[B]? = some (.cells (l.map By).toArray e (0, 0)) := h
  subst hv
  simp [BlkB, World.setCell, Array.getElem?_modify, h', List.map_set]
theorem BlkB.own {w : World} {B base : Nat} {e : TypeId} {l : List Nat} (h : BlkB w B e l) (hb : base ≤ B) (hl : l.length ≤ maxLen) : w.ownsRow base e 1 (.slice (some ⟨B, 0, none⟩) l.length l.length) l.length (l.map By) :=
  ⟨by simp, .inr ⟨B, l.length, _, rfl, hb, h, Nat.le_refl _, hl, by simp, List.take_of_length_le (by simp)⟩⟩

theorem wpList_make_bytes {P : Program} {w : World} {ops : Array Oper} {rest : List Oper} {o : Oper} {a : Act} {Q : Exit → Act → World → Prop}
    (hg : o.guard = none) (l c : Operand) (t e : TypeId) (hop : o.op = Op.makeSlice t l c) (h1 : P.underlying t = some (.slice e))
    (h2 : (P.info? e).map (fun i => (i.zero, i.size, i.bytes)) = some (some (.int .u8 0), 1, 1)) (n : Nat) (hl : a.eval l = .int .i64 n) (hc : a.eval c = .int .i64 n) (hn : n ≤ 1073741824)
    (hK : ∀ w', BlkB w' w.heap.size e (List.replicate n 0) → Below w.heap.size w w' → Hid (w'.heap.size = w.heap.size + 1) → wpList P ops Q rest (a.put o.dst (.slice (some ⟨w.heap.size, 0, none⟩) n n)) w') :
    wpList P ops Q (o :: rest) a w := by
  obtain ⟨i, hi, hz, hs, hb⟩ := info_parts h2
  refine wpList_plain hg fun K hK' => ?_
  have hr := run_make (P := P) w t e i _ h1 hi hz .i64 .i64 n n (by omega) (Int.le_refl _) (by rw [hb]; omega) (by omega)
  simp only [Int.toNat_natCast, hs, Value.cells, madeCells_one, Nat.mul_one] at hr
  unfold Oper.wp
  simp [execOp, hop, hl, hc, hr, Result.andThen]
  refine hK' _ _ (hK _ ?_ ((Below.refl _ _).alloc (Nat.le_refl _) _) (Lib.hid (by simp)))
  show (w.heap.push _)[w.heap.size]? = _
  simp [By]

set_option maxRecDepth 4000 in
set_option maxHeartbeats 2000000 in
theorem digits_w {w : World} {v : Value} {x : Nat} (hv : IsW w v (digs x)) (hl : (digs x).length ≤ 100000) :
    Calls Try.prog 89 #[v] w fun e w' => (∃ r, e = .returned r ∧ w'.ownsRow w.heap.size 5 1 r (decS x).length ((decS x).map By)) ∧ Below w.heap.size w w' := by
  have HV := Lib.hid hv
  have HL := Lib.hid hl
  obtain ⟨a, n, c, rfl⟩ := hv.form
  clear hv hl
  by_cases h0 : x = 0
  · have hz := zerB_true h0
    have H0 := Lib.hid h0
    clear h0
    go_enter Try.func89, Try.ntmps89
    go_wp2_with fail
    refine (isZero_w HV.out).mono ?_
    rintro en w1 ⟨rfl, rfl⟩
    go_wp2_with fail
    have hd : decS x = [48] := by unfold decS; rw [if_pos H0.out]
    go_ret
    refine ⟨⟨_, rfl, ?_⟩, (Below.refl _ _).alloc (Nat.le_refl _) _⟩
    rw [hd]
    exact World.ownsRow_lit w #[Value.int IntKind.u8 48] 1 (Nat.le_refl _) (by unfold maxLen; omega) rfl
  · have hz := zerB_false h0
    have H0 := Lib.hid h0
    clear h0
    go_enter Try.func89, Try.ntmps89
    go_wp2_with fail
    refine (isZero_w HV.out).mono ?_
    rintro en w1 ⟨rfl, rfl⟩
    go_wp2_with fail
    refine (clone_b HV.out (by
      rcases Nat.eq_zero_or_pos (digs x).length with h | h
      · exact absurd (digs_eq_nil.1 (List.eq_nil_of_length_eq_zero h)) H0.out
      · exact h)).mono ?_
    rintro en w2 ⟨rfl, hb2, hbel2, hsz2⟩
    obtain ⟨i0, hi0', hz0', hz1', hz2'⟩ := info_parts iu8
    have HI0 := Lib.hid (And.intro hi0' (And.intro hz0' (And.intro hz1' hz2')))
    clear hi0' hz0' hz1' hz2'
    have hlen0 : Hid (0 < (digs x).length) := Lib.hid (by
      rcases Nat.eq_zero_or_pos (digs x).length with h | h
      · exact absurd (digs_eq_nil.1 (List.eq_nil_of_length_eq_zero h)) H0.out
      · exact h)
    have HW2 : Hid (Ws (digs x)) := Lib.hid (ws_digs x)
    have HX2 : Hid (∀ j g : Nat, g * 2 ^ j ≤ x → 0 < g → j < 3200000) := Lib.hid (fun j g h hg => by
      have h1 : 2 ^ j ≤ x := Nat.le_trans (Nat.le_mul_of_pos_left _ hg) h
      have h2 := lt_of_len_digs x
      have h3 : (4294967296 : Nat) ^ (digs x).length = 2 ^ (32 * (digs x).length) := by rw [Nat.pow_mul]
      rw [h3] at h2
      have h4 : j < 32 * (digs x).length := (Nat.pow_lt_pow_iff_right (by omega)).1 (Nat.lt_of_le_of_lt h1 h2)
      have := HL.out; omega)
    have hbel0 := Lib.hid hbel2
    have HSZ := Lib.hid hsz2
    clear hbel2 hsz2
    go_wp2_with fail
    go_loopg [3, 4] x (fun g bk lf wr => ∃ (j : Nat) (L : List Nat), Hid (g = x / 10 ^ (9 * j)) ∧ Hid (g * 2 ^ j ≤ x) ∧ j ≤ 3200000 ∧ lf = .slice (some ⟨w.heap.size, 0, none⟩) (digs g).length (digs g).length ∧ Hid (Blk wr w.heap.size 40 L) ∧ Hid (Ws L) ∧ Hid (L.length = (digs x).length) ∧
      Hid (L.take (digs g).length = digs g) ∧ Hid ((digs g).length ≤ L.length) ∧ Hid (wr.ownsRow (w.heap.size + 1) 5 1 bk (9 * j) ((bw x (9 * j)).map By)) ∧ Hid (Below w.heap.size w wr) ∧ Hid (w.heap.size + 1 ≤ wr.heap.size))
    case atStart =>
      exact ⟨0, digs x, Lib.hid (by simp), Lib.hid (by simp), by omega, rfl, Lib.hid hb2, HW2, Lib.hid rfl, Lib.hid (List.take_length), Lib.hid (Nat.le_refl _), Lib.hid (World.ownsRow_nil _ _ _ _), hbel0, Lib.hid (by rw [HSZ.out]; omega)⟩
    case round =>
      obtain ⟨j, L, hg, hgx, hj, rfl, hL, hLw, hLl, hLt, hLn, hown, hbel, hsz⟩ := hrel
      obtain ⟨cur, rfl⟩ : ∃ c, c = gk := ⟨_, rfl⟩
      have hIs : Hid (IsW wr (.slice (some ⟨w.heap.size, 0, none⟩) (digs cur).length (digs cur).length) (digs cur)) := Lib.hid (by
        have h9 := hL.out.isW hLw.out 0 (digs cur).length (digs cur).length (by have := hLn.out; omega) (Nat.le_refl _) (by have := hLn.out; have := hLl.out; have := HL.out; omega)
        rw [List.drop_zero, hLt.out] at h9
        exact h9)
      by_cases hc0 : cur = 0
      · have hzc := zerB_true hc0
        have HC0 := Lib.hid hc0
        clear hc0
        go_wp2_with fail
        refine (isZero_w hIs.out).mono ?_
        rintro en w3 ⟨rfl, rfl⟩
        go_wp2_with fail
        have hx9 : Hid (x < 10 ^ (9 * j)) := Lib.hid (by
          have h9 := hg.out
          rw [HC0.out] at h9
          have hp : 0 < 10 ^ (9 * j) := Nat.pow_pos (by omega)
          rcases Nat.lt_or_ge x (10 ^ (9 * j)) with h | h
          · exact h
          · have := Nat.div_pos h hp; omega)
        have hj9 : 0 < 9 * j := by
          rcases Nat.eq_zero_or_pos (9 * j) with h | h
          · exfalso
            have h9 := hx9.out
            rw [h] at h9
            simp at h9
            exact H0.out h9
          · exact h
        obtain ⟨N, hN⟩ : ∃ N, N = 9 * j := ⟨_, rfl⟩
        have HN := Lib.hid hN
        have hNb : N ≤ 28800000 := by omega
        have hownN : Hid (wr.ownsRow (w.heap.size + 1) 5 1 u3 N ((bw x N).map By)) := Lib.hid (by rw [hN]; exact hown.out)
        rw [← hN] at hx9 hj9
        clear hN hown
        obtain ⟨gb, cb, hbk, hgb1, hgb2⟩ := hownN.out.form hj9
        subst hbk
        go_wp2_with fail
        rw [run_len_slice (P := Try.prog) (w := wr) 86 3 (some ⟨gb, 0, none⟩) N cb Try.underlying86]
        go_wp2_with fail
        go_loop [6] (fun nv => ∃ k : Nat, nv = .int .i64 k ∧ 0 < k ∧ k ≤ N ∧ Hid (x < 10 ^ k)) (fun nv => (intOf nv).toNat)
        case atStart => exact ⟨N, by go_num, hj9, Nat.le_refl _, hx9⟩
        case round =>
          obtain ⟨k, rfl, hk0, hk, hxk⟩ := hrel
          obtain ⟨k1, rfl⟩ : ∃ k1, k = k1 + 1 := ⟨k - 1, by omega⟩
          have hc9 : wr.cell? ⟨gb, k1, none⟩ = some (.int .u8 (48 + x / 10 ^ k1 % 10 : Nat)) := by
            have h9 := hownN.out.cellAt k1 (by omega)
            rw [h9]
            simp [bw, By, show k1 < N by omega]
          obtain ⟨dg, hdg⟩ : ∃ d, d = 48 + x / 10 ^ k1 % 10 := ⟨_, rfl⟩
          have HDG := Lib.hid hdg
          rw [← hdg] at hc9
          have hk1 : (((k1 + 1 : Nat) : Int) - 1) = (k1 : Int) := by omega
          clear hdg
          by_cases hd0 : dg = 48
          · have hde : ((dg : Int) == 48) = true := by simp [hd0]
            have hxk1 : Hid (x < 10 ^ k1) := Lib.hid ((bw_top hxk.out).1 (by rw [← HDG.out]; exact hd0))
            have hk2 : 0 < k1 := by
              rcases Nat.eq_zero_or_pos k1 with h | h
              · exfalso
                have h9 := hxk1.out
                rw [h] at h9
                simp at h9
                exact H0.out h9
              · exact h
            clear hd0
            go_wp2_with fail
            go_round
            case rel => exact ⟨k1, by go_num, hk2, by omega, hxk1⟩
            case measure => simp [intOf]
          · have hde : ((dg : Int) == 48) = false := by simp; omega
            have hnd : Hid (ndig x = k1 + 1) := Lib.hid (by
              have h1 := ndig_le.2 hxk.out
              have h2 : ¬ ndig x ≤ k1 := fun h => hd0 (by rw [HDG.out]; exact (bw_top hxk.out).2 (ndig_le.1 h))
              omega)
            clear hd0
            go_wp2_with (at_make; refine wpList_make_bytes rfl _ _ _ _ rfl Try.underlying86 iu8 (k1 + 1) rfl rfl (by omega) ?_; intro w5 hb5 hbel5 hs5; refine halt ?_)
            refine go_on ?_
            have hc5 : Hid (∀ i, i < N → ∀ w', Below wr.heap.size wr w' → w'.cell? ⟨gb, i, none⟩ = some (.int .u8 (48 + x / 10 ^ i % 10 : Nat))) := Lib.hid (fun i hi w' hb => by
              rw [hb.cell (p := ⟨gb, i, none⟩) hgb2, hownN.out.cellAt i (by omega)]
              simp [bw, By, hi])
            obtain ⟨wz, rfl⟩ : ∃ wz : World, wz = wr := ⟨_, rfl⟩
            have HB5 := Lib.hid hb5
            have HBEL5 := Lib.hid hbel5
            have hk1b : k1 < 28800000 := by omega
            clear hc9 hb5 hbel5
            go_wp2_with fail
            go_loopw [47] (fun iv wr => ∃ (k : Nat) (M : List Nat), k ≤ k1 + 1 ∧ iv = .int .i64 k ∧ Hid (BlkB wr wz.heap.size 5 M) ∧ Hid (M.length = k1 + 1) ∧ Hid (Below wz.heap.size wz wr) ∧ Hid (∀ i, i < k → nth M i = 48 + x / 10 ^ (k1 - i) % 10)) (fun iv _ => k1 + 1 - (intOf iv).toNat)
            case atStart => exact ⟨0, _, by omega, rfl, HB5, Lib.hid (by simp), HBEL5, Lib.hid (fun i h => absurd h (by omega))⟩
            case round =>
              obtain ⟨k, M, hk9, rfl, hM, hMl, hbelM, hMv⟩ := hrel
              by_cases hkk : k < k1 + 1
              · have hcell := hc5.out (k1 - k) (by omega) _ hbelM.out
                obtain ⟨d2, hd2⟩ : ∃ d, d = 48 + x / 10 ^ (k1 - k) % 10 := ⟨_, rfl⟩
                have hd2b : d2 < 256 := by rw [hd2]; omega
                have HD2 := Lib.hid hd2
                rw [← hd2] at hcell
                have hsub : k + (k1 - k) = k1 := by omega
                obtain ⟨kd, hkd⟩ : ∃ d, d = k1 - k := ⟨_, rfl⟩
                rw [← hkd] at hcell
                have hix : ((k1 : Int) - (k : Int)) = (kd : Int) := by omega
                have hcM := hM.out.cell k (by have := hMl.out; omega)
                have hfM := hM.out.free k
                clear hd2 hsub hkd
                go_wp2_with fail
                go_roundw
                case rel => exact ⟨k + 1, M.set k d2, by omega, by go_num, Lib.hid (hM.out.setCell k _ _ rfl), Lib.hid (by rw [List.length_set]; exact hMl.out), Lib.hid (hbelM.out.setCell (Nat.le_refl _) _), Lib.hid (fun i hi => by
                  rcases Nat.lt_or_ge i k with h | h
                  · rw [nth_set_ne _ _ _ _ (by omega)]; exact hMv.out i h
                  · obtain rfl : i = k := by omega
                    rw [nth_set_self _ _ _ (by have := hMl.out; omega)]; exact HD2.out)⟩
                case measure => simp [intOf]; omega
              · obtain rfl : k = k1 + 1 := by omega
                have hMd : Hid (M = decS x) := Lib.hid (by
                  unfold decS
                  rw [if_neg H0.out, hnd.out]
                  refine ext_nth (by rw [hMl.out]; simp [bw]) (fun i hi => ?_)
                  rw [hMl.out] at hi
                  rw [hMv.out i hi]
                  have h9 : nth (bw x (k1 + 1)).reverse i = nth (bw x (k1 + 1)) (k1 - i) := by
                    simp only [nth, List.getD_eq_getElem?_getD]
                    rw [List.getElem?_reverse (by rw [bw_len]; exact hi), bw_len, show k1 + 1 - 1 - i = k1 - i by omega]
                  rw [h9, bw_get (by omega)])
                have hgo := Lib.hid (hM.out.own (base := w.heap.size) (by have := hsz.out; omega) (by rw [hMl.out]; unfold maxLen; omega))
                go_wp2_with fail
                go_ret
                refine ⟨⟨_, rfl, ?_⟩, hbel.out.trans (hbelM.out.mono (by have := hsz.out; omega))⟩
                have h9 := hgo.out
                rw [← hMd.out]
                rw [hMl.out] at h9 ⊢
                exact h9
      · have hzc := zerB_false hc0
        have HC0 : Hid (0 < cur) := Lib.hid (by omega)
        have hj2 : j < 3200000 := HX2.out j cur hgx.out HC0.out
        clear hc0
        go_wp2_with fail
        refine (isZero_w hIs.out).mono ?_
        rintro en w3 ⟨rfl, rfl⟩
        go_wp2_with fail
        have hpv : pv L 0 (digs cur).length = cur := by
          have h9 := congrArg val hLt.out
          rw [val_digs] at h9
          simpa [pv] using h9
        have HD := Lib.hid (divWord_l (w := wr) (B := w.heap.size) (n := (digs cur).length) (cap := (digs cur).length) (by_ := 1000000000) hL.out hLw.out hLn.out (by have := hLl.out; have := HL.out; omega) (by omega) (by omega))
        rw [hpv] at HD
        obtain ⟨r0, hr0⟩ : ∃ r, r = cur % 1000000000 := ⟨_, rfl⟩
        have HR0 := Lib.hid hr0
        rw [← hr0] at HD
        have hr0b : r0 < 1000000000 := by rw [hr0]; exact Nat.mod_lt _ (by omega)
        obtain ⟨nc, hnc⟩ : ∃ n, n = (digs cur).length := ⟨_, rfl⟩
        have HNC := Lib.hid hnc
        rw [← hnc] at HD
        rw [← hnc]
        clear hpv hr0 hnc
        refine HD.out.mono ?_
        rintro en w4 ⟨rfl, L2, hL2, hL2w, hL2l, hon4, hs4, hv4⟩
        have HL2 := Lib.hid hL2
        have HL2w := Lib.hid hL2w
        have HL2l : Hid (L2.length = (digs x).length) := Lib.hid (by rw [hL2l, hLl.out])
        have HV4 := Lib.hid hv4
        have hbel4 := Lib.hid (below_only hbel.out hon4 (Nat.le_refl _))
        have hsz4 : Hid (w.heap.size + 1 ≤ w4.heap.size) := Lib.hid (by rw [hon4.size]; exact hsz.out)
        have hown4 : Hid (w4.ownsRow (w.heap.size + 1) 5 1 u3 (9 * j) ((bw x (9 * j)).map By)) := Lib.hid (hown.out.kept (row := some w.heap.size) ⟨hon4.os, hon4.tape, hon4.output, Nat.le_of_eq hon4.size.symm, fun k _ hk => hon4.block k (fun e => hk (by rw [e]))⟩ (by
          cases ho : u3.ownBlock with
          | none => exact Or.inl rfl
          | some z => exact Or.inr (fun e => by have h9 := (hown.out.lt z ho).1; simp at e; omega)))
        clear hL2 hL2w hL2l hv4 hon4 hs4
        go_wp2_with fail
        go_loopw [3, 5, 21] (fun bk rs tv wr => ∃ t rt : Nat, t ≤ 9 ∧ tv = .int .i64 t ∧ rs = .int .u32 rt ∧ rt < 1000000000 ∧ Hid (rt = r0 / 10 ^ t) ∧ Hid (wr.ownsRow (w.heap.size + 1) 5 1 bk (9 * j + t) ((bw x (9 * j + t)).map By)) ∧ Hid (Blk wr w.heap.size 40 L2) ∧ Hid (Below w.heap.size w wr) ∧ Hid (w.heap.size + 1 ≤ wr.heap.size)) (fun _ _ tv _ => 9 - (intOf tv).toNat)
        case atStart => exact ⟨0, r0, by omega, rfl, rfl, hr0b, Lib.hid (by simp), hown4, HL2, hbel4, hsz4⟩
        case round =>
          obtain ⟨t, rt, ht, rfl, rfl, hrt, hrtv, hown5, hblk5, hbel5, hsz5⟩ := hrel
          obtain ⟨wo, rfl⟩ : ∃ wo : World, wo = wr := ⟨_, rfl⟩
          by_cases ht9 : t < 9
          · have hw8 : IntKind.u8.wrap (48 + (rt : Int) % 10) = 48 + (rt : Int) % 10 := by
              rw [IntKind.wrap_u8]; omega
            have hstep : Hid ((bw x (9 * j + t)).map By ++ [Value.int .u8 (48 + (rt : Int) % 10)] = (bw x (9 * j + t + 1)).map By) := Lib.hid (by
              rw [bw_succ, List.map_append]
              congr 1
              have h1 : rt % 10 = x / 10 ^ (9 * j + t) % 10 := by
                rw [hrtv.out, HR0.out]; exact piece_digit hg.out ht9
              simp only [List.map_cons, List.map_nil, By]
              rw [← h1]
              congr 2)
            go_wp2_with (at_builtin; refine wpList_append_own_at _ rfl _ _ _ rfl (w.heap.size + 1) 5 i0 (.int .u8 0) 1 1 Try.underlying86 HI0.out.1 HI0.out.2.1 HI0.out.2.2.1 HI0.out.2.2.2 rfl (by decide) _ _ _ rfl (hown5.out.alloc _) ⟨wo.heap.size, 0, none⟩ 1 1 [.int .u8 (48 + (rt : Int) % 10)] rfl rfl ?c1 ?c2 ?c3 ?c4 ?c5 ?_)
            case c1 =>
              intro j9 u9 hu9
              have hj0 : j9 = 0 := by
                rcases Nat.eq_zero_or_pos j9 with h | h
                · exact h
                · simp [List.getElem?_eq_none (show [Value.int IntKind.u8 (48 + (rt : Int) % 10)].length ≤ j9 by simp; omega)] at hu9
              subst hj0
              simp only [List.getElem?_cons_zero, Option.some.injEq] at hu9
              subst hu9
              rw [Addr.add_lit, Nat.add_zero, cell_of_row _ _ _ _ _ _ (heap_alloc_new wo _)]
              rfl
            case c2 => intro u9 hu9; simp at hu9; subst hu9; rfl
            case c3 => unfold maxLen; omega
            case c4 => omega
            case c5 => have := hsz5.out; simp; omega
            intro v6 w6 hown6 hgrow6 _ hat6
            have hne6 : some w.heap.size ≠ u3.ownBlock := fun e => by have h9 := (hown5.out.lt _ e.symm).1; omega
            have HO6 : Hid (w6.ownsRow (w.heap.size + 1) 5 1 v6 (9 * j + (t + 1)) ((bw x (9 * j + (t + 1))).map By)) := Lib.hid (by
              have h9 := hown6
              rw [hstep.out] at h9
              exact h9)
            have HB6 : Hid (Blk w6 w.heap.size 40 L2) := Lib.hid (by
              have h8 : Blk (wo.alloc (Obj.cells #[Value.int IntKind.u8 (48 + (rt : Int) % 10)] 5)) w.heap.size 40 L2 := (Below.heap_alloc _ _ _ hblk5.out.lt).trans hblk5.out
              exact (hgrow6.block _ (by have := hsz5.out; simp; omega) hne6).trans h8)
            have HBel6 : Hid (Below w.heap.size w w6) := Lib.hid ((hbel5.out.alloc (by have := hsz5.out; omega) _).grown hgrow6 (by have := hsz5.out; simp; omega) (fun k hk => by have h9 := (hown5.out.lt _ hk).1; omega))
            have HS6 : Hid (w.heap.size + 1 ≤ w6.heap.size) := Lib.hid (by have h9 := hgrow6.size; have := hsz5.out; simp at h9; omega)
            clear hown6 hgrow6 hat6 hne6
            go_wp2_with fail
            go_roundw
            case rel => exact ⟨t + 1, rt / 10, by omega, by go_num, by go_num, by omega, Lib.hid (by rw [hrtv.out, Nat.div_div_eq_div_mul, Nat.pow_succ]), HO6, HB6, HBel6, HS6⟩
            case measure => simp [intOf]; omega
          · obtain rfl : t = 9 := by omega
            have hI9 : IsW wo (.slice (some ⟨w.heap.size, 0, none⟩) (L2.take nc).length nc) (L2.take nc) := by
              have h9 := hblk5.out.isW HL2w.out 0 nc nc (by have := HL2l.out; have := hLn.out; have := hLl.out; have := HNC.out; omega) (Nat.le_refl _) (by have := HL2l.out; have := hLn.out; have := hLl.out; have := HNC.out; have := HL.out; omega)
              rw [List.drop_zero] at h9
              have h8 : (L2.take nc).length = nc := by rw [List.length_take]; have := HL2l.out; have := hLn.out; have := hLl.out; have := HNC.out; omega
              rw [h8]; exact h9
            have hvt : Hid (val (L2.take nc) = cur / 1000000000) := Lib.hid (by
              have h9 := HV4.out
              rw [← h9]
              simp [pv])
            have hln9 : Hid ((L2.take nc).length = nc) := Lib.hid (by rw [List.length_take]; have := HL2l.out; have := hLn.out; have := hLl.out; have := HNC.out; omega)
            have HT := Lib.hid (trim_x hI9)
            rw [hvt.out, hln9.out] at HT
            clear hI9
            go_wp2_with fail
            refine HT.out.mono ?_
            rintro en w6 ⟨rfl, rfl⟩
            go_wp2_with fail
            go_roundg (cur / 1000000000)
            case measure => have := HC0.out; omega
            case rel =>
              refine ⟨j + 1, L2, Lib.hid ?_, Lib.hid ?_, by omega, rfl, hblk5, HL2w, HL2l, Lib.hid ?_, Lib.hid ?_, Lib.hid (by have h9 := hown5.out; rwa [show 9 * j + 9 = 9 * (j + 1) by omega] at h9), hbel5, hsz5⟩
              · rw [hg.out, Nat.div_div_eq_div_mul, show 9 * (j + 1) = 9 * j + 9 by omega, Nat.pow_add]
              · refine Nat.le_trans ?_ hgx.out
                rw [Nat.pow_succ, Nat.mul_comm (2 ^ j), ← Nat.mul_assoc]
                refine Nat.mul_le_mul_right _ ?_
                omega
              · have h9 := digs_prefix (l := L2.take nc) (ws_take HL2w.out nc)
                rw [hvt.out] at h9
                have h8 : (digs (cur / 1000000000)).length ≤ nc := by rw [HNC.out]; exact len_digs_mono (Nat.div_le_self _ _)
                rw [List.take_take, Nat.min_eq_left h8] at h9
                exact h9.symm
              · have h8 : (digs (cur / 1000000000)).length ≤ nc := by rw [HNC.out]; exact len_digs_mono (Nat.div_le_self _ _)
                have := HL2l.out; have := hLn.out; have := hLl.out; have := HNC.out; omega
end Go.Proofs.Ytlmnicpkncgbiaa
