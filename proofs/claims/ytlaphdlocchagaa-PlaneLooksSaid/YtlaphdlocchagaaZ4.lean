/- Several texts in one: Wd, We, Wf. -/
import Derived.Test.YtlaphdlocchagaaZ3
/- Sums, differences, shifts of words. -/
namespace Go.Proofs.Ytlaphdlocchagaa
open Go.RowKit

theorem add_room {l m L' : List Nat} (hl : Ws l) (hm : Ws m) (hlen : m.length ≤ l.length) (hl' : L'.length = (l ++ List.replicate (l.length + 1 - l.length) 0).length)
    (hv : pv L' 0 (l.length + 1) = (pv (l ++ List.replicate (l.length + 1 - l.length) 0) 0 (l.length + 1) + val m) % 4294967296 ^ (l.length + 1)) : val L' = val l + val m := by
  have e1 : (l ++ List.replicate (l.length + 1 - l.length) 0).length = l.length + 1 := by simp
  rw [pv_eq_val (by omega), pv_eq_val e1, val_append, val_replicate] at hv
  rw [hv, Nat.mul_zero, Nat.add_zero]
  refine Nat.mod_eq_of_lt ?_
  have h1 := val_lt hl
  have h2 := val_lt hm
  have h3 : 4294967296 ^ m.length ≤ 4294967296 ^ l.length := Nat.pow_le_pow_right (by omega) hlen
  rw [Nat.pow_succ]
  omega

set_option maxHeartbeats 400000 in
theorem add_l {w : World} {u v : Value} {l m : List Nat} (hu : IsW w u l) (hv : IsW w v m) (hl : l.length < 1073741824) (hm : m.length < 1073741824) :
    Calls Try.prog 87 #[u, v] w fun e w' => (∃ r, e = .returned r ∧ IsW w' r (digs (val l + val m)) ∧ (∀ b, r.ownBlock = some b → w.heap.size ≤ b)) ∧ Below w.heap.size w w' := by
  have HU := Lib.hid hu
  have HV := Lib.hid hv
  obtain ⟨a, cap, rfl, h1, h2, h3, h4, h5⟩ := hu
  obtain ⟨b, bcap, rfl, k1, k2, k3, k4, k5⟩ := hv
  clear h3 h4 h5 k3 k4 k5
  by_cases hlen : l.length < m.length
  · go_enter Try.func87, Try.ntmps87
    go_wp2_with (at_make; refine wpList_make_words rfl _ _ _ _ rfl uw iu32 (m.length + 1) rfl rfl hm ?_; intro w1 hb1 hbel hs1; refine halt ?_)
    refine go_on ?_
    go_wp2_with ((with_reducible refine at_copy ?_); refine wpList_copy_words rfl (.tmp 17) (.tmp 18) _ _ rfl _ uw su32 _ 0 _ _ _ m _ _ rfl rfl (HV.out.below hbel) hb1 (by omega) (by simp) ?_; intro w2 hb2 hon; refine halt ?_)
    refine go_on ?_
    rw [copied_new] at hb2
    go_wp2_with fail
    refine (increase_w hb2 (ws_append HV.out.ws (ws_replicate _)) (by simp) (by simp; omega) ((HU.out.below hbel).only0 hon (HU.out.own_ne (Nat.le_refl _))) (HU.out.own_ne (Nat.le_refl _))).mono ?_
    rintro en w3 ⟨rfl, L', hb3, hw3, hl3, hon3, -, hv3⟩
    have HV3 := Lib.hid (add_room HV.out.ws HU.out.ws (by omega) hl3 hv3)
    have HL3 := Lib.hid hl3
    clear hv3 hl3
    have hL3 : L'.length = m.length + 1 := by have := HL3.out; simp at this; omega
    have hI := hb3.isW_all hw3 (m.length + 1) (by omega) (by omega)
    rw [hL3] at hI
    have HI := Lib.hid hI
    clear hL3 hI
    go_wp2_with fail
    refine (trim_d HI.out HV3.out).mono ?_
    rintro en w4 ⟨⟨r, rfl, hr, hown⟩, rfl⟩
    go_wp2_with fail
    go_ret
    refine ⟨⟨r, rfl, by rw [Nat.add_comm]; exact hr, fun x hx => ?_⟩, below_only (below_only hbel hon (Nat.le_refl _)) hon3 (Nat.le_refl _)⟩
    have := hown x hx
    simp [Value.ownBlock] at this
    omega
  · go_enter Try.func87, Try.ntmps87
    go_wp2_with (at_make; refine wpList_make_words rfl _ _ _ _ rfl uw iu32 (l.length + 1) rfl rfl hl ?_; intro w1 hb1 hbel hs1; refine halt ?_)
    refine go_on ?_
    go_wp2_with ((with_reducible refine at_copy ?_); refine wpList_copy_words rfl (.tmp 17) (.tmp 18) _ _ rfl _ uw su32 _ 0 _ _ _ l _ _ rfl rfl (HU.out.below hbel) hb1 (by omega) (by simp) ?_; intro w2 hb2 hon; refine halt ?_)
    refine go_on ?_
    rw [copied_new] at hb2
    go_wp2_with fail
    refine (increase_w hb2 (ws_append HU.out.ws (ws_replicate _)) (by simp) (by simp; omega) ((HV.out.below hbel).only0 hon (HV.out.own_ne (Nat.le_refl _))) (HV.out.own_ne (Nat.le_refl _))).mono ?_
    rintro en w3 ⟨rfl, L', hb3, hw3, hl3, hon3, -, hv3⟩
    have HV3 := Lib.hid (add_room HU.out.ws HV.out.ws (by omega) hl3 hv3)
    have HL3 := Lib.hid hl3
    clear hv3 hl3
    have hL3 : L'.length = l.length + 1 := by have := HL3.out; simp at this; omega
    have hI := hb3.isW_all hw3 (l.length + 1) (by omega) (by omega)
    rw [hL3] at hI
    have HI := Lib.hid hI
    clear hL3 hI
    go_wp2_with fail
    refine (trim_d HI.out HV3.out).mono ?_
    rintro en w4 ⟨⟨r, rfl, hr, hown⟩, rfl⟩
    go_wp2_with fail
    go_ret
    refine ⟨⟨r, rfl, by exact hr, fun x hx => ?_⟩, below_only (below_only hbel hon (Nat.le_refl _)) hon3 (Nat.le_refl _)⟩
    have := hown x hx
    simp [Value.ownBlock] at this
    omega

theorem add_w {w : World} {u v : Value} {x y : Nat} (hu : IsW w u (digs x)) (hv : IsW w v (digs y)) (hl : (digs x).length < 1073741824) (hm : (digs y).length < 1073741824) :
    Calls Try.prog 87 #[u, v] w fun e w' => (∃ r, e = .returned r ∧ IsW w' r (digs (x + y)) ∧ (∀ b, r.ownBlock = some b → w.heap.size ≤ b)) ∧ Below w.heap.size w w' := by
  have := add_l hu hv hl hm
  rwa [val_digs, val_digs] at this
end Go.Proofs.Ytlaphdlocchagaa

/- Differences of words. -/
namespace Go.Proofs.Ytlaphdlocchagaa
open Go.RowKit

/-- A difference of words as the program computes it, modulo 2^64; its low word; what is borrowed. -/
def subU (x y : Nat) : Nat := (x + 18446744073709551616 - y) % 18446744073709551616
theorem subU_wrap (x y : Nat) (hx : x < 18446744073709551616) (hy : y < 18446744073709551616) : IntKind.u64.wrap ((x : Int) - (y : Int)) = (subU x y : Int) := by
  rw [IntKind.wrap_u64]; unfold subU; omega
theorem subU_lt (x y : Nat) : subU x y < 18446744073709551616 := Nat.mod_lt _ (by omega)

theorem subU_word (x y br : Nat) (hx : x < 4294967296) (hy : y < 4294967296) (hb : br ≤ 1) :
    subU (subU x y) br % 4294967296 + y + br = x + 4294967296 * (subU (subU x y) br / 9223372036854775808) ∧ subU (subU x y) br / 9223372036854775808 ≤ 1 := by
  have h1 : subU x y = if y ≤ x then x - y else x + 18446744073709551616 - y := by unfold subU; split <;> omega
  have h2 : subU (subU x y) br = if y + br ≤ x then x - y - br else x + 18446744073709551616 - y - br := by
    rw [h1]; unfold subU; split <;> split <;> omega
  rw [h2]
  split <;> omega

theorem sub_step {l m M : List Nat} {k br : Nat} (hk : k < M.length) (hl : Ws l) (hm : Ws m) (hb : br ≤ 1) (hv : pv M 0 k + pv m 0 k + 4294967296 ^ k * 0 = pv l 0 k + 4294967296 ^ k * br) :
    pv (M.set k (subU (subU (nth l k) (nth m k)) br % 4294967296)) 0 (k + 1) + pv m 0 (k + 1) = pv l 0 (k + 1) + 4294967296 ^ (k + 1) * (subU (subU (nth l k) (nth m k)) br / 9223372036854775808) := by
  have h := (subU_word (nth l k) (nth m k) br (ws_nth hl k) (ws_nth hm k) hb).1
  have e := pv_set M 0 k (subU (subU (nth l k) (nth m k)) br % 4294967296) (by omega)
  rw [Nat.zero_add] at e
  rw [e, pv_succ, pv_succ, Nat.zero_add, Nat.pow_succ]
  generalize subU (subU (nth l k) (nth m k)) br % 4294967296 = d at *
  generalize subU (subU (nth l k) (nth m k)) br / 9223372036854775808 = q at *
  generalize 4294967296 ^ k = p at *
  have : p * (d + nth m k + br) = p * (nth l k + 4294967296 * q) := by rw [h]
  grind

theorem sub_end {l m M : List Nat} {br : Nat} (hl : Ws l) (hM : Ws M) (hlen : M.length = l.length) (hle : val m ≤ val l) (hv : pv M 0 l.length + pv m 0 l.length = pv l 0 l.length + 4294967296 ^ l.length * br) : val M = val l - val m := by
  obtain ⟨r, hr⟩ := val_split' m l.length
  have h1 := val_lt hl
  have h2 := val_lt hM
  rw [pv_eq_val hlen, pv_eq_val rfl] at hv
  rw [hlen] at h2
  have hp : 0 < 4294967296 ^ l.length := Nat.pow_pos (by omega)
  generalize 4294967296 ^ l.length = p at *
  have hr0 : r = 0 := by
    rcases Nat.eq_zero_or_pos r with h | h
    · exact h
    · have := Nat.mul_le_mul_left p h; omega
  subst hr0
  have hb0 : br = 0 := by
    rcases Nat.eq_zero_or_pos br with h | h
    · exact h
    · have := Nat.mul_le_mul_left p h; omega
  subst hb0
  omega

set_option maxHeartbeats 400000 in
theorem sub_l {w : World} {u v : Value} {l m : List Nat} (hu : IsW w u l) (hv : IsW w v m) (hle : val m ≤ val l) :
    Calls Try.prog 88 #[u, v] w fun e w' => (∃ r, e = .returned r ∧ IsW w' r (digs (val l - val m)) ∧ (∀ b, r.ownBlock = some b → w.heap.size ≤ b)) ∧ Below w.heap.size w w' := by
  have HU := Lib.hid hu
  have HV := Lib.hid hv
  have hll := hu.len
  have HLE := Lib.hid hle
  obtain ⟨a, cap, rfl, h1, h2, h3, h4, h5⟩ := hu
  have H4 := Lib.hid h4
  clear h3 h4 h5 hle hv
  go_enter Try.func88, Try.ntmps88
  go_wp2_with (at_make; refine wpList_make_words rfl _ _ _ _ rfl uw iu32 l.length rfl rfl hll ?_; intro w1 hb1 hbel hs1; refine halt ?_)
  refine go_on ?_
  go_wp2_with fail
  go_loopw [6, 15] (fun c i wr => ∃ (k br : Nat) (M : List Nat), k ≤ l.length ∧ i = .int .i64 k ∧ c = .int .u64 br ∧ br ≤ 1 ∧ Blk wr w.heap.size 53 M ∧ Hid (Ws M) ∧ Hid (M.length = l.length) ∧ Below w.heap.size w wr ∧
      Hid (pv M 0 k + pv m 0 k = pv l 0 k + 4294967296 ^ k * br)) (fun _ i _ => l.length - (intOf i).toNat)
  case atStart => exact ⟨0, 0, _, Nat.zero_le _, rfl, rfl, by omega, hb1, Lib.hid (ws_replicate _), Lib.hid (by simp), hbel, Lib.hid (by simp [pv_zero])⟩
  case round =>
    obtain ⟨k, br, M, hk, rfl, rfl, hbr, hM, hMw, hMl, hon, hval⟩ := hrel
    by_cases hkn : k < l.length
    · have hx := ws_nth HU.out.ws k
      have hy := ws_nth HV.out.ws k
      obtain ⟨b, off, rfl, hlt, -⟩ := H4.out (by intro e; simp at e; subst e; simp at hkn)
      have hcell0 := HU.out.cell k hkn
      have hcell : wr.cell? ⟨b, off + k, none⟩ = some (.int .u32 (nth l k)) := by rw [hon.cell (p := ⟨b, off + k, none⟩) hlt]; exact hcell0
      have hcellM := hM.cell k (by have := hMl.out; omega)
      have hfree := hM.free k
      clear hcell0
      have w1 := subU_wrap (nth l k) (nth m k) (by omega) (by omega)
      have w2 := subU_wrap (subU (nth l k) (nth m k)) br (subU_lt _ _) (by omega)
      have w3 := subU_lt (subU (nth l k) (nth m k)) br
      go_wp2_with fail
      refine (at_w (HV.out.below hon) k).mono ?_
      rintro en w2 ⟨rfl, rfl⟩
      go_wp2_with fail
      go_roundw
      case rel =>
        have hw := subU_word (nth l k) (nth m k) br hx hy hbr
        exact ⟨k + 1, subU (subU (nth l k) (nth m k)) br / 9223372036854775808, M.set k (subU (subU (nth l k) (nth m k)) br % 4294967296), by omega, by go_num, by go_num, hw.2,
          hM.setCell k _ _ (by unfold U; go_num), Lib.hid (ws_set hMw.out _ (by omega)), Lib.hid (by rw [List.length_set]; exact hMl.out), hon.setCell (Nat.le_refl _) _,
          Lib.hid (sub_step (by have := hMl.out; omega) HU.out.ws HV.out.ws hbr (by simpa using hval.out))⟩
      case measure => simp [intOf]; omega
    · obtain rfl : k = l.length := by omega
      have hMv := Lib.hid (sub_end HU.out.ws hMw.out hMl.out HLE.out hval.out)
      have hI := hM.isW_all hMw.out l.length (by have := hMl.out; omega) (by have := hMl.out; omega)
      rw [hMl.out] at hI
      have HI := Lib.hid hI
      clear hI
      go_wp2_with fail
      refine (trim_d HI.out hMv.out).mono ?_
      rintro en w4 ⟨⟨r, rfl, hr, hown⟩, rfl⟩
      go_wp2_with fail
      go_ret
      refine ⟨⟨r, rfl, hr, fun x hx => ?_⟩, hon⟩
      have := hown x hx
      simp [Value.ownBlock] at this
      omega

theorem sub_w {w : World} {u v : Value} {x y : Nat} (hu : IsW w u (digs x)) (hv : IsW w v (digs y)) (hle : y ≤ x) :
    Calls Try.prog 88 #[u, v] w fun e w' => (∃ r, e = .returned r ∧ IsW w' r (digs (x - y)) ∧ (∀ b, r.ownBlock = some b → w.heap.size ≤ b)) ∧ Below w.heap.size w w' := by
  have := sub_l hu hv (by rwa [val_digs, val_digs])
  rwa [val_digs, val_digs] at this
end Go.Proofs.Ytlaphdlocchagaa

/- Words out of a number; shifts; division by a word. -/
namespace Go.Proofs.Ytlaphdlocchagaa
open Go.RowKit

theorem two_words (n : Nat) (hn : n < 18446744073709551616) : Ws [n % 4294967296, n / 4294967296] ∧ val [n % 4294967296, n / 4294967296] = n := by
  refine ⟨?_, ?_⟩
  · intro x hx; simp at hx; omega
  · simp [val]; omega

set_option maxHeartbeats 400000 in
theorem fromUint_w {w : World} (n : Nat) (hn : n < 18446744073709551616) :
    Calls Try.prog 83 #[.int .u64 n] w fun e w' => (∃ r, e = .returned r ∧ IsW w' r (digs n) ∧ (∀ b, r.ownBlock = some b → w.heap.size ≤ b)) ∧ Below w.heap.size w w' := by
  go_enter Try.func83, Try.ntmps83
  go_wp2_with fail
  have hB : Blk (w.alloc (Obj.cells #[Value.int IntKind.u32 ((n : Int) % 4294967296), Value.int IntKind.u32 ((n : Int) / 4294967296)] 53)) w.heap.size 53 [n % 4294967296, n / 4294967296] := by
    show (w.heap.push _)[w.heap.size]? = _
    simp [U]
  have hI := hB.isW_all (two_words n hn).1 2 (by simp) (by simp)
  have HB := Lib.hid hB
  have HI := Lib.hid hI
  clear hB hI
  refine (trim_d HI.out (two_words n hn).2).mono ?_
  rintro en w4 ⟨⟨r, rfl, hr, hown⟩, rfl⟩
  go_wp2_with fail
  go_ret
  refine ⟨⟨r, rfl, hr, fun x hx => ?_⟩, (Below.refl _ _).alloc (Nat.le_refl _) _⟩
  have := hown x hx
  simp [Value.ownBlock] at this
  omega

set_option maxHeartbeats 400000 in
theorem leadingZeros_l {w : World} {v : Value} {l : List Nat} (h : IsW w v l) (h0 : 0 < l.length) (ht : nth l (l.length - 1) ≠ 0) :
    Calls Try.prog 92 #[v] w fun e w' => (∃ s : Nat, e = .returned (.int .i64 s) ∧ s < 32 ∧ 2147483648 ≤ nth l (l.length - 1) * 2 ^ s ∧ nth l (l.length - 1) * 2 ^ s < 4294967296) ∧ w = w' := by
  have hb := ws_nth h.ws (l.length - 1)
  obtain ⟨a, cap, rfl, h1, h2, h3, h4, h5⟩ := id h
  obtain ⟨b, off, rfl, -, -⟩ := h4 (by intro e; simp at e; subst e; simp at h0)
  have hcell := h.cell (l.length - 1) (by omega)
  have HT := Lib.hid ht
  clear h h3 h4 h5 ht
  go_enter Try.func92, Try.ntmps92
  go_wp2_with fail
  go_loop [3, 4] (fun n t => ∃ s x : Nat, n = .int .i64 s ∧ t = .int .u32 x ∧ s < 32 ∧ 0 < x ∧ x < 4294967296 ∧ Hid (x = nth l (l.length - 1) * 2 ^ s)) (fun n _ => 32 - (intOf n).toNat)
  case atStart => exact ⟨0, _, rfl, rfl, by omega, Nat.pos_of_ne_zero HT.out, hb, Lib.hid (by simp)⟩
  case round =>
    obtain ⟨s, x, rfl, rfl, hs, hx0, hx, hval⟩ := hrel
    by_cases hlt : x < 2147483648
    · have hs' : Hid (s < 31) := Lib.hid (by
        rcases Nat.lt_or_ge s 31 with h | h
        · exact h
        · have h1 : 2 ^ 31 ≤ 2 ^ s := Nat.pow_le_pow_right (by omega) h
          have h2 : 1 * 2 ^ s ≤ nth l (l.length - 1) * 2 ^ s := Nat.mul_le_mul_right _ (Nat.pos_of_ne_zero HT.out)
          have h3 := hval.out
          omega)
      have hd : decide ((x : Int) < 2147483648) = true := by simp; omega
      have HLT := Lib.hid hlt
      have HX := Lib.hid hx
      clear hlt hx
      go_wp2_with fail
      go_round
      case rel => exact ⟨s + 1, x * 2, by go_num, by have := HLT.out; go_num, by have := hs'.out; omega, by omega, by have := HLT.out; omega, Lib.hid (by rw [hval.out, Nat.pow_succ, Nat.mul_assoc])⟩
      case measure => simp [intOf]; omega
    · have hv := Lib.hid hval.out
      have hd : decide ((x : Int) < 2147483648) = false := by simp; omega
      have HLT := Lib.hid hlt
      have HX := Lib.hid hx
      clear hlt hx
      go_wp2_with fail
      go_ret
      exact ⟨⟨s, rfl, hs, by have := hv.out; have := HLT.out; omega, by have := hv.out; have := HX.out; omega⟩, rfl⟩

/-- A word shifted left, and what stands below it. -/
def shlU (x s : Nat) : Nat := x * 2 ^ s
def orS (cr x s : Nat) : Nat := cr + x * 2 ^ s
theorem shlU_lt {x s : Nat} (hx : x < 4294967296) (hs : s < 32) : shlU x s < 9223372036854775808 := by
  unfold shlU
  have h1 : 2 ^ s ≤ 2 ^ 31 := Nat.pow_le_pow_right (by omega) (by omega)
  have h2 := Nat.mul_le_mul (Nat.le_of_lt_succ (show x < 4294967295 + 1 by omega)) h1
  omega
theorem shlU_wrap {x s : Nat} (hx : x < 4294967296) (hs : s < 32) : IntKind.u64.wrap ((x : Int) * 2 ^ s) = (shlU x s : Int) := by
  have h := shlU_lt hx hs
  have e : ((x : Int) * 2 ^ s) = (shlU x s : Int) := by unfold shlU; simp
  rw [e]; exact IntWalk.u64_in _ (by omega)
theorem orS_lt {cr x s : Nat} (hx : x < 4294967296) (hc : cr < 2 ^ s) : orS cr x s < 2 ^ s * 4294967296 := by
  unfold orS
  have h : 2 ^ s * (x + 1) ≤ 2 ^ s * 4294967296 := Nat.mul_le_mul_left _ (by omega)
  grind
theorem or_shlU {cr x s : Nat} (hx : x < 4294967296) (hs : s < 32) (hc : cr < 2 ^ s) : bits .or .u64 (cr : Int) (shlU x s : Int) = (orS cr x s : Int) := by
  have h := shlU_lt hx hs
  have h1 : 2 ^ s ≤ 2 ^ 31 := Nat.pow_le_pow_right (by omega) (by omega)
  rw [u64_or_nat cr (shlU x s) (by omega) (by omega)]
  congr 1
  unfold shlU orS
  rw [Nat.or_comm, Nat.mul_comm]
  have := Nat.two_pow_add_eq_or_of_lt hc x
  omega

theorem shl_step {l M : List Nat} {k cr s : Nat} (hk : k < M.length) (hv : pv M 0 k + 4294967296 ^ k * cr = pv l 0 k * 2 ^ s) :
    pv (M.set k (orS cr (nth l k) s % 4294967296)) 0 (k + 1) + 4294967296 ^ (k + 1) * (orS cr (nth l k) s / 4294967296) = pv l 0 (k + 1) * 2 ^ s := by
  have h := Nat.mod_add_div (orS cr (nth l k) s) 4294967296
  have e := pv_set M 0 k (orS cr (nth l k) s % 4294967296) (by omega)
  rw [Nat.zero_add] at e
  rw [e, pv_succ, Nat.zero_add, Nat.pow_succ]
  generalize orS cr (nth l k) s / 4294967296 = q at *
  generalize orS cr (nth l k) s % 4294967296 = d at *
  unfold orS at h
  generalize 2 ^ s = t at *
  generalize 4294967296 ^ k = p at *
  have : p * (d + 4294967296 * q) = p * (cr + nth l k * t) := by rw [h]
  grind

theorem shl_end {l M : List Nat} {cr s : Nat} (hl : M.length = l.length + 1) (hv : pv M 0 l.length + 4294967296 ^ l.length * cr = pv l 0 l.length * 2 ^ s) : val (M.set l.length cr) = val l * 2 ^ s := by
  rw [pv_eq_val rfl] at hv
  have e := pv_set M 0 l.length cr (by omega)
  rw [Nat.zero_add, pv_eq_val (by rw [List.length_set]; exact hl)] at e
  rw [e, hv]

set_option maxHeartbeats 400000 in
theorem shiftLeft_l {w : World} {v : Value} {l : List Nat} (h : IsW w v l) (s : Nat) (hs : s < 32) (hl : l.length < 1073741824) :
    Calls Try.prog 98 #[v, .int .i64 s] w fun e w' => (∃ M, e = .returned (.slice (some ⟨w.heap.size, 0, none⟩) (l.length + 1) (l.length + 1)) ∧ Blk w' w.heap.size 53 M ∧ Ws M ∧ M.length = l.length + 1 ∧ val M = val l * 2 ^ s) ∧ Below w.heap.size w w' ∧ w'.heap.size = w.heap.size + 1 := by
  have H := Lib.hid h
  obtain ⟨a, cap, rfl, h1, h2, h3, h4, h5⟩ := h
  have H4 := Lib.hid h4
  clear h3 h4 h5
  go_enter Try.func98, Try.ntmps98
  go_wp2_with (at_make; refine wpList_make_words rfl _ _ _ _ rfl uw iu32 (l.length + 1) rfl rfl hl ?_; intro w1 hb1 hbel hs1; refine halt ?_)
  refine go_on ?_
  go_wp2_with fail
  go_loopw [6, 15] (fun c i wr => ∃ (k cr : Nat) (M : List Nat), k ≤ l.length ∧ i = .int .i64 k ∧ c = .int .u64 cr ∧ cr < 2 ^ s ∧ Blk wr w.heap.size 53 M ∧ Hid (Ws M) ∧ Hid (M.length = l.length + 1) ∧ Below w.heap.size w wr ∧
      Hid (wr.heap.size = w.heap.size + 1) ∧ Hid (pv M 0 k + 4294967296 ^ k * cr = pv l 0 k * 2 ^ s)) (fun _ i _ => l.length - (intOf i).toNat)
  case atStart => exact ⟨0, 0, _, Nat.zero_le _, rfl, rfl, Nat.pow_pos (by omega), hb1, Lib.hid (ws_replicate _), Lib.hid (by simp), hbel, hs1, Lib.hid (by simp [pv_zero])⟩
  case round =>
    obtain ⟨k, cr, M, hk, rfl, rfl, hcr, hM, hMw, hMl, hon, hsz, hval⟩ := hrel
    have hcr2 : cr < 4294967296 := Nat.lt_trans hcr (Nat.lt_of_lt_of_le (Nat.pow_lt_pow_right (by omega) hs) (Nat.le_refl _))
    have HCR := Lib.hid hcr
    clear hcr
    by_cases hkn : k < l.length
    · have hx := ws_nth H.out.ws k
      obtain ⟨b, off, rfl, hlt, -⟩ := H4.out (by intro e; simp at e; subst e; simp at hkn)
      have hcell0 := H.out.cell k hkn
      have hcell : wr.cell? ⟨b, off + k, none⟩ = some (.int .u32 (nth l k)) := by rw [hon.cell (p := ⟨b, off + k, none⟩) hlt]; exact hcell0
      have hcellM := hM.cell k (by have := hMl.out; omega)
      have hfree := hM.free k
      have w1 := shlU_wrap hx hs
      have w2 := or_shlU hx hs HCR.out
      have w3 : orS cr (nth l k) s < 9223372036854775808 := by
        have := orS_lt hx HCR.out
        have h1 : 2 ^ s ≤ 2 ^ 31 := Nat.pow_le_pow_right (by omega) (by omega)
        omega
      clear hcell0
      go_wp2_with fail
      go_roundw
      case rel =>
        have hc' : orS cr (nth l k) s / 4294967296 < 2 ^ s := Nat.div_lt_of_lt_mul (by rw [Nat.mul_comm]; exact orS_lt hx HCR.out)
        exact ⟨k + 1, orS cr (nth l k) s / 4294967296, M.set k (orS cr (nth l k) s % 4294967296), by omega, by go_num, by go_num, hc',
          hM.setCell k _ _ (by unfold U; go_num), Lib.hid (ws_set hMw.out _ (by omega)), Lib.hid (by rw [List.length_set]; exact hMl.out), hon.setCell (Nat.le_refl _) _,
          Lib.hid (by have := hsz.out; simpa [World.setCell] using this), Lib.hid (shl_step (by have := hMl.out; omega) hval.out)⟩
      case measure => simp [intOf]; omega
    · obtain rfl : k = l.length := by omega
      have hcellM := hM.cell l.length (by have := hMl.out; omega)
      have hfree := hM.free l.length
      go_wp2_with fail
      go_ret
      refine ⟨⟨M.set l.length cr, rfl, hM.setCell _ _ _ (by unfold U; go_num), ws_set hMw.out _ hcr2, by rw [List.length_set]; exact hMl.out, shl_end hMl.out hval.out⟩, hon.setCell (Nat.le_refl _) _, ?_⟩
      have := hsz.out; simpa [World.setCell] using this
end Go.Proofs.Ytlaphdlocchagaa
