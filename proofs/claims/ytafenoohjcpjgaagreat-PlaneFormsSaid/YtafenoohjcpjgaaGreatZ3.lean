/- Several texts in one: Wf, Wg, Wh, Wi, Wj. -/
import Derived.Test.YtafenoohjcpjgaaGreatZ2
import Derived.Deep.RegionWith
/- Words out of a number; shifts; division by a word. -/
namespace Go.Proofs.YtafenoohjcpjgaaGreat
open Go.RowKit

theorem two_words (n : Nat) (hn : n < 18446744073709551616) : Ws [n % 4294967296, n / 4294967296] ∧ val [n % 4294967296, n / 4294967296] = n := by
  refine ⟨?_, ?_⟩
  · intro x hx; simp at hx; omega
  · simp [val]; omega

set_option maxHeartbeats 400000 in
theorem fromUint_w {w : World} (n : Nat) (hn : n < 18446744073709551616) :
    Calls Tryz.prog 128 #[.int .u64 n] w fun e w' => (∃ r, e = .returned r ∧ IsW w' r (digs n) ∧ (∀ b, r.ownBlock = some b → w.heap.size ≤ b)) ∧ Below w.heap.size w w' := by
  go_enter Tryz.func128, Tryz.ntmps128
  go_wp2_with fail
  have hB : Blk (w.alloc (Obj.cells #[Value.int IntKind.u32 ((n : Int) % 4294967296), Value.int IntKind.u32 ((n : Int) / 4294967296)] 125)) w.heap.size 125 [n % 4294967296, n / 4294967296] := by
    show (w.heap.push _)[w.heap.size]? = _
    simp [U]
  have hI := hB.isW_all (two_words n hn).1 2 (by simp) (by simp)
  have HB := Lib.hid hB
  have HI := Lib.hid hI
  clear hB hI
  refine (trim_d HI.out (two_words n hn).2).mono ?_
  rintro en w4 ⟨⟨r, rfl, hr, hown⟩, rfl⟩
  go_wp2_with fail
  go_ret
  refine ⟨⟨r, rfl, hr, fun x hx => ?_⟩, (Below.refl _ _).alloc (Nat.le_refl _) _⟩
  have := hown x hx
  simp [Value.ownBlock] at this
  omega

set_option maxHeartbeats 400000 in
theorem leadingZeros_l {w : World} {v : Value} {l : List Nat} (h : IsW w v l) (h0 : 0 < l.length) (ht : nth l (l.length - 1) ≠ 0) :
    Calls Tryz.prog 146 #[v] w fun e w' => (∃ s : Nat, e = .returned (.int .i64 s) ∧ s < 32 ∧ 2147483648 ≤ nth l (l.length - 1) * 2 ^ s ∧ nth l (l.length - 1) * 2 ^ s < 4294967296) ∧ w = w' := by
  have hb := ws_nth h.ws (l.length - 1)
  obtain ⟨a, cap, rfl, h1, h2, h3, h4, h5⟩ := id h
  obtain ⟨b, off, rfl, -, -⟩ := h4 (by intro e; simp at e; subst e; simp at h0)
  have hcell := h.cell (l.length - 1) (by omega)
  have HT := Lib.hid ht
  clear h h3 h4 h5 ht
  go_enter Tryz.func146, Tryz.ntmps146
  go_wp2_with fail
  go_loop [3, 4] (fun n t => ∃ s x : Nat, n = .int .i64 s ∧ t = .int .u32 x ∧ s < 32 ∧ 0 < x ∧ x < 4294967296 ∧ Hid (x = nth l (l.length - 1) * 2 ^ s)) (fun n _ => 32 - (intOf n).toNat)
  case atStart => exact ⟨0, _, rfl, rfl, by omega, Nat.pos_of_ne_zero HT.out, hb, Lib.hid (by simp)⟩
  case round =>
    obtain ⟨s, x, rfl, rfl, hs, hx0, hx, hval⟩ := hrel
    by_cases hlt : x < 2147483648
    · have hs' : Hid (s < 31) := Lib.hid (by
        rcases Nat.lt_or_ge s 31 with h | h
        · exact h
        · have h1 : 2 ^ 31 ≤ 2 ^ s := Nat.pow_le_pow_right (by omega) h
          have h2 : 1 * 2 ^ s ≤ nth l (l.length - 1) * 2 ^ s := Nat.mul_le_mul_right _ (Nat.pos_of_ne_zero HT.out)
          have h3 := hval.out
          omega)
      have hd : decide ((x : Int) < 2147483648) = true := by simp; omega
      have HLT := Lib.hid hlt
      have HX := Lib.hid hx
      clear hlt hx
      go_wp2_with fail
      go_round
      case rel => exact ⟨s + 1, x * 2, by go_num, by have := HLT.out; go_num, by have := hs'.out; omega, by omega, by have := HLT.out; omega, Lib.hid (by rw [hval.out, Nat.pow_succ, Nat.mul_assoc])⟩
      case measure => simp [intOf]; omega
    · have hv := Lib.hid hval.out
      have hd : decide ((x : Int) < 2147483648) = false := by simp; omega
      have HLT := Lib.hid hlt
      have HX := Lib.hid hx
      clear hlt hx
      go_wp2_with fail
      go_ret
      exact ⟨⟨s, rfl, hs, by have := hv.out; have := HLT.out; omega, by have := hv.out; have := HX.out; omega⟩, rfl⟩

/-- A word shifted left, and what stands below it. -/
def shlU (x s : Nat) : Nat := x * 2 ^ s
def orS (cr x s : Nat) : Nat := cr + x * 2 ^ s
theorem shlU_lt {x s : Nat} (hx : x < 4294967296) (hs : s < 32) : shlU x s < 9223372036854775808 := by
  unfold shlU
  have h1 : 2 ^ s ≤ 2 ^ 31 := Nat.pow_le_pow_right (by omega) (by omega)
  have h2 := Nat.mul_le_mul (Nat.le_of_lt_succ (show x < 4294967295 + 1 by omega)) h1
  omega
theorem shlU_wrap {x s : Nat} (hx : x < 4294967296) (hs : s < 32) : IntKind.u64.wrap ((x : Int) * 2 ^ s) = (shlU x s : Int) := by
  have h := shlU_lt hx hs
  have e : ((x : Int) * 2 ^ s) = (shlU x s : Int) := by unfold shlU; simp
  rw [e]; exact IntWalk.u64_in _ (by omega)
theorem orS_lt {cr x s : Nat} (hx : x < 4294967296) (hc : cr < 2 ^ s) : orS cr x s < 2 ^ s * 4294967296 := by
  unfold orS
  have h : 2 ^ s * (x + 1) ≤ 2 ^ s * 4294967296 := Nat.mul_le_mul_left _ (by omega)
  grind
theorem or_shlU {cr x s : Nat} (hx : x < 4294967296) (hs : s < 32) (hc : cr < 2 ^ s) : bits .or .u64 (cr : Int) (shlU x s : Int) = (orS cr x s : Int) := by
  have h := shlU_lt hx hs
  have h1 : 2 ^ s ≤ 2 ^ 31 := Nat.pow_le_pow_right (by omega) (by omega)
  rw [u64_or_nat cr (shlU x s) (by omega) (by omega)]
  congr 1
  unfold shlU orS
  rw [Nat.or_comm, Nat.mul_comm]
  have := Nat.two_pow_add_eq_or_of_lt hc x
  omega

theorem shl_step {l M : List Nat} {k cr s : Nat} (hk : k < M.length) (hv : pv M 0 k + 4294967296 ^ k * cr = pv l 0 k * 2 ^ s) :
    pv (M.set k (orS cr (nth l k) s % 4294967296)) 0 (k + 1) + 4294967296 ^ (k + 1) * (orS cr (nth l k) s / 4294967296) = pv l 0 (k + 1) * 2 ^ s := by
  have h := Nat.mod_add_div (orS cr (nth l k) s) 4294967296
  have e := pv_set M 0 k (orS cr (nth l k) s % 4294967296) (by omega)
  rw [Nat.zero_add] at e
  rw [e, pv_succ, Nat.zero_add, Nat.pow_succ]
  generalize orS cr (nth l k) s / 4294967296 = q at *
  generalize orS cr (nth l k) s % 4294967296 = d at *
  unfold orS at h
  generalize 2 ^ s = t at *
  generalize 4294967296 ^ k = p at *
  have : p * (d + 4294967296 * q) = p * (cr + nth l k * t) := by rw [h]
  grind

theorem shl_end {l M : List Nat} {cr s : Nat} (hl : M.length = l.length + 1) (hv : pv M 0 l.length + 4294967296 ^ l.length * cr = pv l 0 l.length * 2 ^ s) : val (M.set l.length cr) = val l * 2 ^ s := by
  rw [pv_eq_val rfl] at hv
  have e := pv_set M 0 l.length cr (by omega)
  rw [Nat.zero_add, pv_eq_val (by rw [List.length_set]; exact hl)] at e
  rw [e, hv]

set_option maxHeartbeats 400000 in
theorem shiftLeft_l {w : World} {v : Value} {l : List Nat} (h : IsW w v l) (s : Nat) (hs : s < 32) (hl : l.length < 1073741824) :
    Calls Tryz.prog 165 #[v, .int .i64 s] w fun e w' => (∃ M, e = .returned (.slice (some ⟨w.heap.size, 0, none⟩) (l.length + 1) (l.length + 1)) ∧ Blk w' w.heap.size 125 M ∧ Ws M ∧ M.length = l.length + 1 ∧ val M = val l * 2 ^ s) ∧ Below w.heap.size w w' ∧ w'.heap.size = w.heap.size + 1 := by
  have H := Lib.hid h
  obtain ⟨a, cap, rfl, h1, h2, h3, h4, h5⟩ := h
  have H4 := Lib.hid h4
  clear h3 h4 h5
  go_enter Tryz.func165, Tryz.ntmps165
  go_wp2_with (at_make; refine wpList_make_words rfl _ _ _ _ rfl uw iu32 (l.length + 1) rfl rfl hl ?_; intro w1 hb1 hbel hs1; refine halt ?_)
  refine go_on ?_
  go_wp2_with fail
  go_loopw [6, 15] (fun c i wr => ∃ (k cr : Nat) (M : List Nat), k ≤ l.length ∧ i = .int .i64 k ∧ c = .int .u64 cr ∧ cr < 2 ^ s ∧ Blk wr w.heap.size 125 M ∧ Hid (Ws M) ∧ Hid (M.length = l.length + 1) ∧ Below w.heap.size w wr ∧
      Hid (wr.heap.size = w.heap.size + 1) ∧ Hid (pv M 0 k + 4294967296 ^ k * cr = pv l 0 k * 2 ^ s)) (fun _ i _ => l.length - (intOf i).toNat)
  case atStart => exact ⟨0, 0, _, Nat.zero_le _, rfl, rfl, Nat.pow_pos (by omega), hb1, Lib.hid (ws_replicate _), Lib.hid (by simp), hbel, hs1, Lib.hid (by simp [pv_zero])⟩
  case round =>
    obtain ⟨k, cr, M, hk, rfl, rfl, hcr, hM, hMw, hMl, hon, hsz, hval⟩ := hrel
    have hcr2 : cr < 4294967296 := Nat.lt_trans hcr (Nat.lt_of_lt_of_le (Nat.pow_lt_pow_right (by omega) hs) (Nat.le_refl _))
    have HCR := Lib.hid hcr
    clear hcr
    by_cases hkn : k < l.length
    · have hx := ws_nth H.out.ws k
      obtain ⟨b, off, rfl, hlt, -⟩ := H4.out (by intro e; simp at e; subst e; simp at hkn)
      have hcell0 := H.out.cell k hkn
      have hcell : wr.cell? ⟨b, off + k, none⟩ = some (.int .u32 (nth l k)) := by rw [hon.cell (p := ⟨b, off + k, none⟩) hlt]; exact hcell0
      have hcellM := hM.cell k (by have := hMl.out; omega)
      have hfree := hM.free k
      have w1 := shlU_wrap hx hs
      have w2 := or_shlU hx hs HCR.out
      have w3 : orS cr (nth l k) s < 9223372036854775808 := by
        have := orS_lt hx HCR.out
        have h1 : 2 ^ s ≤ 2 ^ 31 := Nat.pow_le_pow_right (by omega) (by omega)
        omega
      clear hcell0
      go_wp2_with fail
      go_roundw
      case rel =>
        have hc' : orS cr (nth l k) s / 4294967296 < 2 ^ s := Nat.div_lt_of_lt_mul (by rw [Nat.mul_comm]; exact orS_lt hx HCR.out)
        exact ⟨k + 1, orS cr (nth l k) s / 4294967296, M.set k (orS cr (nth l k) s % 4294967296), by omega, by go_num, by go_num, hc',
          hM.setCell k _ _ (by unfold U; go_num), Lib.hid (ws_set hMw.out _ (by omega)), Lib.hid (by rw [List.length_set]; exact hMl.out), hon.setCell (Nat.le_refl _) _,
          Lib.hid (by have := hsz.out; simpa [World.setCell] using this), Lib.hid (shl_step (by have := hMl.out; omega) hval.out)⟩
      case measure => simp [intOf]; omega
    · obtain rfl : k = l.length := by omega
      have hcellM := hM.cell l.length (by have := hMl.out; omega)
      have hfree := hM.free l.length
      go_wp2_with fail
      go_ret
      refine ⟨⟨M.set l.length cr, rfl, hM.setCell _ _ _ (by unfold U; go_num), ws_set hMw.out _ hcr2, by rw [List.length_set]; exact hMl.out, shl_end hMl.out hval.out⟩, hon.setCell (Nat.le_refl _) _, ?_⟩
      have := hsz.out; simpa [World.setCell] using this
end Go.Proofs.YtafenoohjcpjgaaGreat

/- Shifts to the right; division by a word. -/
namespace Go.Proofs.YtafenoohjcpjgaaGreat
open Go.RowKit

/-- Two words. -/
def twoW (hi lo : Nat) : Nat := hi * 4294967296 + lo
theorem twoW_lt {hi lo : Nat} (h : hi < 4294967296) (k : lo < 4294967296) : twoW hi lo < 18446744073709551616 := by unfold twoW; omega
theorem u64_twoW {hi lo : Nat} (h : hi < 4294967296) (k : lo < 4294967296) : bits .or .u64 ((hi : Int) * 4294967296) (lo : Int) = (twoW hi lo : Int) := u64_join hi lo h k

theorem pv_head (l : List Nat) (j m : Nat) : pv l j (m + 1) = nth l j + 4294967296 * pv l (j + 1) m := by
  rw [Nat.add_comm m 1, pv_add, pv_succ, pv_zero]; simp

theorem val_div_pow_drop {l : List Nat} (hl : Ws l) (k : Nat) : val l / 4294967296 ^ k = val (l.drop k) := by
  by_cases h : k ≤ l.length
  · rw [val_split l k h, Nat.add_mul_div_left _ _ (Nat.pow_pos (by omega)), Nat.div_eq_of_lt (val_take_lt hl k), Nat.zero_add]
  · rw [List.drop_eq_nil_of_le (by omega)]
    exact Nat.div_eq_of_lt (Nat.lt_of_lt_of_le (val_lt hl) (Nat.pow_le_pow_right (by omega) (by omega)))

theorem shr_digit {l : List Nat} {k s : Nat} (_hl : Ws l) (hs : s < 32) : (twoW (nth l (k + 1)) (nth l k) / 2 ^ s) % 4294967296 = val l / 2 ^ s / 4294967296 ^ k % 4294967296 := by
  rw [Nat.div_div_eq_div_mul, Nat.mul_comm, ← Nat.div_div_eq_div_mul]
  have e : val l / 4294967296 ^ k = val (l.drop k) := val_div_pow_drop (by assumption) k
  rw [e, val_drop_succ, val_drop_succ]
  have e2 : (2 : Nat) ^ s * 2 ^ (32 - s) = 4294967296 := by rw [← Nat.pow_add, show s + (32 - s) = 32 from by omega]
  generalize val (l.drop (k + 1 + 1)) = r
  have e3 : nth l k + 4294967296 * (nth l (k + 1) + 4294967296 * r) = twoW (nth l (k + 1)) (nth l k) + 2 ^ s * (4294967296 * (2 ^ (32 - s) * r)) := by
    unfold twoW
    have : 2 ^ s * (4294967296 * (2 ^ (32 - s) * r)) = (2 ^ s * 2 ^ (32 - s)) * (4294967296 * r) := by grind
    rw [this, e2]; omega
  rw [e3, Nat.add_mul_div_left _ _ (Nat.pow_pos (by omega)), Nat.add_mul_mod_self_left]

theorem shr_step {l M : List Nat} {k s : Nat} (hl : Ws l) (hs : s < 32) (hk : k < M.length) (hv : pv M 0 k = val l / 2 ^ s % 4294967296 ^ k) :
    pv (M.set k (twoW (nth l (k + 1)) (nth l k) / 2 ^ s % 4294967296)) 0 (k + 1) = val l / 2 ^ s % 4294967296 ^ (k + 1) := by
  have e := pv_set M 0 k (twoW (nth l (k + 1)) (nth l k) / 2 ^ s % 4294967296) (by omega)
  rw [Nat.zero_add] at e
  rw [e, hv, shr_digit hl hs, Nat.pow_succ, Nat.mod_mul]

/-- A quotient, under a name. -/
def quoW (t b : Nat) : Nat := t / b
theorem quoW_wrap (t b : Nat) (ht : t < 18446744073709551616) : IntKind.u64.wrap ((t : Int) / (b : Int)) = (quoW t b : Int) := by
  have h := Nat.div_le_self t b
  have e : (t : Int) / (b : Int) = ((t / b : Nat) : Int) := by rw [Int.natCast_ediv]
  rw [e]
  generalize hq : t / b = q at *
  unfold quoW
  rw [hq]
  exact IntWalk.u64_in _ (by omega)

theorem divW_step {L M : List Nat} {k n r by_ : Nat} (hk : 0 < k) (hkn : k ≤ n) (hn : n ≤ M.length)
    (hlow : nth M (k - 1) = nth L (k - 1)) (hv : by_ * pv M k (n - k) + r = pv L k (n - k)) :
    by_ * pv (M.set (k - 1) (quoW (twoW r (nth M (k - 1))) by_)) (k - 1) (n - (k - 1)) + twoW r (nth M (k - 1)) % by_ = pv L (k - 1) (n - (k - 1)) := by
  have e : n - (k - 1) = (n - k) + 1 := by omega
  have ek : k - 1 + 1 = k := by omega
  rw [e, pv_head, pv_head, nth_set_self _ _ _ (by omega), ek, pv_congr (m := M) (fun j _ => nth_set_ne _ _ _ _ (by omega)), ← hlow, ← hv]
  have h := Nat.mod_add_div (twoW r (nth M (k - 1))) by_
  unfold quoW
  generalize twoW r (nth M (k - 1)) / by_ = q at *
  generalize twoW r (nth M (k - 1)) % by_ = d at *
  unfold twoW at h
  grind

set_option maxHeartbeats 400000 in
theorem shiftRight_l {w : World} {v : Value} {l : List Nat} (h : IsW w v l) (s : Nat) (hs : s < 32) :
    Calls Tryz.prog 169 #[v, .int .i64 s] w fun e w' => (∃ r, e = .returned r ∧ IsW w' r (digs (val l / 2 ^ s)) ∧ (∀ b, r.ownBlock = some b → w.heap.size ≤ b)) ∧ Below w.heap.size w w' := by
  have H := Lib.hid h
  obtain ⟨a, cap, rfl, h1, h2, h3, h4, h5⟩ := h
  clear h3 h4 h5
  go_enter Tryz.func169, Tryz.ntmps169
  go_wp2_with (at_make; refine wpList_make_words rfl _ _ _ _ rfl uw iu32 l.length rfl rfl h2 ?_; intro w1 hb1 hbel hs1; refine halt ?_)
  refine go_on ?_
  go_wp2_with fail
  go_loopw [12] (fun i wr => ∃ (k : Nat) (M : List Nat), k ≤ l.length ∧ i = .int .i64 k ∧ Blk wr w.heap.size 125 M ∧ Hid (Ws M) ∧ Hid (M.length = l.length) ∧ Below w.heap.size w wr ∧
      Hid (pv M 0 k = val l / 2 ^ s % 4294967296 ^ k)) (fun i _ => l.length - (intOf i).toNat)
  case atStart => exact ⟨0, _, Nat.zero_le _, rfl, hb1, Lib.hid (ws_replicate _), Lib.hid (by simp), hbel, Lib.hid (by simp [pv_zero, Nat.mod_one])⟩
  case round =>
    obtain ⟨k, M, hk, rfl, hM, hMw, hMl, hon, hval⟩ := hrel
    by_cases hkn : k < l.length
    · have hx := ws_nth H.out.ws k
      have hy := ws_nth H.out.ws (k + 1)
      have hcellM := hM.cell k (by have := hMl.out; omega)
      have hfree := hM.free k
      have w1 := u64_twoW hy hx
      have w2 := twoW_lt hy hx
      go_wp2_with fail
      refine (at_w (H.out.below hon) (k + 1)).mono ?_
      rintro en w2 ⟨rfl, rfl⟩
      go_wp2_with fail
      refine (at_w (H.out.below hon) k).mono ?_
      rintro en w2 ⟨rfl, rfl⟩
      go_wp2_with fail
      go_roundw
      case rel =>
        exact ⟨k + 1, M.set k (twoW (nth l (k + 1)) (nth l k) / 2 ^ s % 4294967296), by omega, by go_num, hM.setCell k _ _ (by unfold U; congr 1), Lib.hid (ws_set hMw.out _ (by omega)),
          Lib.hid (by rw [List.length_set]; exact hMl.out), hon.setCell (Nat.le_refl _) _, Lib.hid (shr_step H.out.ws hs (by have := hMl.out; omega) hval.out)⟩
      case measure => simp [intOf]; omega
    · obtain rfl : k = l.length := by omega
      have hMv : Hid (val M = val l / 2 ^ s) := Lib.hid (by
        have h1 := hval.out
        rw [pv_eq_val hMl.out] at h1
        rw [h1]
        exact Nat.mod_eq_of_lt (Nat.lt_of_le_of_lt (Nat.div_le_self _ _) (val_lt H.out.ws)))
      have hI := hM.isW_all hMw.out l.length (by have := hMl.out; omega) (by have := hMl.out; omega)
      rw [hMl.out] at hI
      have HI := Lib.hid hI
      clear hI
      go_wp2_with fail
      refine (trim_d HI.out hMv.out).mono ?_
      rintro en w4 ⟨⟨r, rfl, hr, hown⟩, rfl⟩
      go_wp2_with fail
      go_ret
      refine ⟨⟨r, rfl, hr, fun x hx => ?_⟩, hon⟩
      have := hown x hx
      simp [Value.ownBlock] at this
      omega

set_option maxHeartbeats 400000 in
theorem divWord_l {w : World} {B n cap by_ : Nat} {e : TypeId} {L : List Nat} (hL : Blk w B e L) (hw : Ws L) (hn : n ≤ L.length) (hlen : L.length ≤ 1073741824) (hb0 : 0 < by_) (hb : by_ < 4294967296) :
    Calls Tryz.prog 149 #[.slice (some ⟨B, 0, none⟩) n cap, .int .u32 by_] w fun en w' => en = .returned (.int .u32 (pv L 0 n % by_ : Nat)) ∧
      ∃ L', Blk w' B e L' ∧ Ws L' ∧ L'.length = L.length ∧ Only B w w' ∧ (∀ j, n ≤ j → nth L' j = nth L j) ∧ pv L' 0 n = pv L 0 n / by_ := by
  go_enter Tryz.func149, Tryz.ntmps149
  go_wp2_with fail
  go_loopw [5, 6] (fun c i wr => ∃ (k r : Nat) (M : List Nat), k ≤ n ∧ i = .int .i64 ((k : Int) - 1) ∧ c = .int .u64 r ∧ r < by_ ∧ Blk wr B e M ∧ Hid (Ws M) ∧ Hid (M.length = L.length) ∧ Only B w wr ∧
      Hid (∀ j, (j < k ∨ n ≤ j) → nth M j = nth L j) ∧ Hid (by_ * pv M k (n - k) + r = pv L k (n - k))) (fun _ i _ => (intOf i + 1).toNat)
  case atStart => exact ⟨n, 0, L, Nat.le_refl _, rfl, rfl, hb0, hL, Lib.hid hw, Lib.hid rfl, Only.refl _ _, Lib.hid (fun _ _ => rfl), Lib.hid (by simp [pv_zero])⟩
  case round =>
    obtain ⟨k, r, M, hk, rfl, rfl, hr, hM, hMw, hMl, hon, hsame, hval⟩ := hrel
    by_cases hk0 : 0 < k
    · have hx := ws_nth hMw.out (k - 1)
      have hcellM := hM.cell (k - 1) (by have := hMl.out; omega)
      have hfree := hM.free (k - 1)
      have w1 := u64_twoW (show r < 4294967296 by omega) hx
      have w2 := twoW_lt (show r < 4294967296 by omega) hx
      have hq : quoW (twoW r (nth M (k - 1))) by_ < 4294967296 := by
        unfold quoW twoW
        have : by_ * (r + 1) ≤ by_ * by_ := Nat.mul_le_mul_left _ hr
        refine Nat.div_lt_of_lt_mul ?_
        have h2 : (r + 1) * 4294967296 ≤ by_ * 4294967296 := Nat.mul_le_mul_right _ hr
        omega
      have w3 := quoW_wrap (twoW r (nth M (k - 1))) by_ (by omega)
      go_wp2_with fail
      go_roundw
      case rel =>
        exact ⟨k - 1, twoW r (nth M (k - 1)) % by_, M.set (k - 1) (quoW (twoW r (nth M (k - 1))) by_), by omega, by go_num, by rw [← Int.natCast_emod], Nat.mod_lt _ hb0,
          hM.setCell _ _ _ (by unfold U; go_num), Lib.hid (ws_set hMw.out _ hq), Lib.hid (by rw [List.length_set]; exact hMl.out), hon.setCell _ _,
          Lib.hid (fun j hj => by rw [nth_set_ne _ _ _ _ (by omega)]; exact hsame.out j (by omega)), Lib.hid (divW_step hk0 hk (by have := hMl.out; omega) (hsame.out _ (by omega)) hval.out)⟩
      case measure => simp [intOf]; omega
    · obtain rfl : k = 0 := by omega
      have h1 : Hid (pv L 0 n % by_ = r ∧ pv L 0 n / by_ = pv M 0 n) := Lib.hid (by
        have h2 := hval.out
        rw [Nat.sub_zero] at h2
        rw [← h2]
        exact ⟨by rw [Nat.mul_add_mod, Nat.mod_eq_of_lt hr], by rw [Nat.mul_add_div hb0, Nat.div_eq_of_lt hr, Nat.add_zero]⟩)
      have hr2 : r < 4294967296 := by omega
      go_wp2_with fail
      go_ret
      refine ⟨ret_int (by rw [h1.out.1]), M, hM, hMw.out, hMl.out, hon, fun j hj => hsame.out j (Or.inr hj), h1.out.2.symm⟩
end Go.Proofs.YtafenoohjcpjgaaGreat

/- Products, word by word. -/
namespace Go.Proofs.YtafenoohjcpjgaaGreat
open Go.RowKit

/-- A word's part of a product, under a name. -/
def mulS (x f y c : Nat) : Nat := c + (x * f + y)
theorem mulS_lt {x f y c : Nat} (hx : x < 4294967296) (hf : f < 4294967296) (hy : y < 4294967296) (hc : c < 4294967296) : mulS x f y c < 18446744073709551616 := by
  unfold mulS
  have := Nat.mul_le_mul (Nat.le_of_lt_succ (show x < 4294967295 + 1 by omega)) (Nat.le_of_lt_succ (show f < 4294967295 + 1 by omega))
  omega
theorem mulS_wrap1 {x f : Nat} (hx : x < 4294967296) (hf : f < 4294967296) : IntKind.u64.wrap ((x : Int) * (f : Int)) = ((mulS x f 0 0 : Nat) : Int) := by
  have h := mulS_lt hx hf (show 0 < 4294967296 by omega) (show 0 < 4294967296 by omega)
  have e : (x : Int) * (f : Int) = ((mulS x f 0 0 : Nat) : Int) := by unfold mulS; simp
  rw [e]; exact IntWalk.u64_in _ (by omega)
theorem mulS_wrap2 {x f y : Nat} (hx : x < 4294967296) (hf : f < 4294967296) (hy : y < 4294967296) : IntKind.u64.wrap (((mulS x f 0 0 : Nat) : Int) + (y : Int)) = ((mulS x f y 0 : Nat) : Int) := by
  have h := mulS_lt hx hf hy (show 0 < 4294967296 by omega)
  have e : ((mulS x f 0 0 : Nat) : Int) + (y : Int) = ((mulS x f y 0 : Nat) : Int) := by unfold mulS; simp
  rw [e]; exact IntWalk.u64_in _ (by omega)
theorem mulS_wrap3 {x f y c : Nat} (hx : x < 4294967296) (hf : f < 4294967296) (hy : y < 4294967296) (hc : c < 4294967296) : IntKind.u64.wrap ((c : Int) + ((mulS x f y 0 : Nat) : Int)) = ((mulS x f y c : Nat) : Int) := by
  have h := mulS_lt hx hf hy hc
  have e : (c : Int) + ((mulS x f y 0 : Nat) : Int) = ((mulS x f y c : Nat) : Int) := by unfold mulS; simp
  rw [e]; exact IntWalk.u64_in _ (by omega)

theorem mulrow_step {l M N : List Nat} {j i c f : Nat} (hi : j + i < N.length) (hsame : nth N (j + i) = nth M (j + i)) (hv : pv N j i + 4294967296 ^ i * c = pv M j i + pv l 0 i * f) :
    pv (N.set (j + i) (mulS (nth l i) f (nth N (j + i)) c % 4294967296)) j (i + 1) + 4294967296 ^ (i + 1) * (mulS (nth l i) f (nth N (j + i)) c / 4294967296) = pv M j (i + 1) + pv l 0 (i + 1) * f := by
  have h := Nat.mod_add_div (mulS (nth l i) f (nth N (j + i)) c) 4294967296
  rw [pv_set _ _ _ _ hi, pv_succ, pv_succ, Nat.zero_add, Nat.pow_succ, ← hsame]
  generalize mulS (nth l i) f (nth N (j + i)) c / 4294967296 = q at *
  generalize mulS (nth l i) f (nth N (j + i)) c % 4294967296 = d at *
  unfold mulS at h
  generalize 4294967296 ^ i = p at *
  have : p * (d + 4294967296 * q) = p * (c + (nth l i * f + nth N (j + i))) := by rw [h]
  grind

theorem mulrow_end {l m M N : List Nat} {j c : Nat} (hN : j + l.length < N.length) (hlow : ∀ i, i < j → nth N i = nth M i) 
    (hv : pv N j l.length + 4294967296 ^ l.length * c = pv M j l.length + pv l 0 l.length * nth m j) (ho : pv M 0 (j + l.length) = val l * pv m 0 j) :
    pv (N.set (j + l.length) c) 0 (j + 1 + l.length) = val l * pv m 0 (j + 1) := by
  have e : j + 1 + l.length = j + (l.length + 1) := by omega
  rw [e, pv_add, Nat.zero_add, pv_set _ _ _ _ hN, hv, pv_eq_val rfl, pv_succ, Nat.zero_add]
  rw [pv_congr (l := N.set (j + l.length) c) (m := M) (k := j) (off := 0) (fun i hi => by rw [nth_set_ne _ _ _ _ (by omega), hlow _ (by omega)])]
  rw [pv_add, Nat.zero_add] at ho
  grind

end Go.Proofs.YtafenoohjcpjgaaGreat

/- Products by halves. -/
namespace Go.Proofs.YtafenoohjcpjgaaGreat
open Go.RowKit

end Go.Proofs.YtafenoohjcpjgaaGreat

/- Products. -/
namespace Go.Proofs.YtafenoohjcpjgaaGreat
open Go.RowKit

end Go.Proofs.YtafenoohjcpjgaaGreat
