/- Differences of words. -/
import Derived.Test.YtebgkfcglmjokaaWd
namespace Go.Proofs.Ytebgkfcglmjokaa
open Go.RowKit

/-- A difference of words as the program computes it, modulo 2^64; its low word; what is borrowed. -/
def subU (x y : Nat) : Nat := (x + 18446744073709551616 - y) % 18446744073709551616
theorem subU_wrap (x y : Nat) (hx : x < 18446744073709551616) (hy : y < 18446744073709551616) : IntKind.u64.wrap ((x : Int) - (y : Int)) = (subU x y : Int) := by
  rw [IntKind.wrap_u64]; unfold subU; omega
theorem subU_lt (x y : Nat) : subU x y < 18446744073709551616 := Nat.mod_lt _ (by omega)

theorem subU_word (x y br : Nat) (hx : x < 4294967296) (hy : y < 4294967296) (hb : br ≤ 1) :
    subU (subU x y) br % 4294967296 + y + br = x + 4294967296 * (subU (subU x y) br / 9223372036854775808) ∧ subU (subU x y) br / 9223372036854775808 ≤ 1 := by
  have h1 : subU x y = if y ≤ x then x - y else x + 18446744073709551616 - y := by unfold subU; split <;> omega
  have h2 : subU (subU x y) br = if y + br ≤ x then x - y - br else x + 18446744073709551616 - y - br := by
    rw [h1]; unfold subU; split <;> split <;> omega
  rw [h2]
  split <;> omega

theorem sub_step {l m M : List Nat} {k br : Nat} (hk : k < M.length) (hl : Ws l) (hm : Ws m) (hb : br ≤ 1) (hv : pv M 0 k + pv m 0 k + 4294967296 ^ k * 0 = pv l 0 k + 4294967296 ^ k * br) :
    pv (M.set k (subU (subU (nth l k) (nth m k)) br % 4294967296)) 0 (k + 1) + pv m 0 (k + 1) = pv l 0 (k + 1) + 4294967296 ^ (k + 1) * (subU (subU (nth l k) (nth m k)) br / 9223372036854775808) := by
  have h := (subU_word (nth l k) (nth m k) br (ws_nth hl k) (ws_nth hm k) hb).1
  have e := pv_set M 0 k (subU (subU (nth l k) (nth m k)) br % 4294967296) (by omega)
  rw [Nat.zero_add] at e
  rw [e, pv_succ, pv_succ, Nat.zero_add, Nat.pow_succ]
  generalize subU (subU (nth l k) (nth m k)) br % 4294967296 = d at *
  generalize subU (subU (nth l k) (nth m k)) br / 9223372036854775808 = q at *
  generalize 4294967296 ^ k = p at *
  have : p * (d + nth m k + br) = p * (nth l k + 4294967296 * q) := by rw [h]
  grind

theorem sub_end {l m M : List Nat} {br : Nat} (hl : Ws l) (hM : Ws M) (hlen : M.length = l.length) (hle : val m ≤ val l) (hv : pv M 0 l.length + pv m 0 l.length = pv l 0 l.length + 4294967296 ^ l.length * br) : val M = val l - val m := by
  obtain ⟨r, hr⟩ := val_split' m l.length
  have h1 := val_lt hl
  have h2 := val_lt hM
  rw [pv_eq_val hlen, pv_eq_val rfl] at hv
  rw [hlen] at h2
  have hp : 0 < 4294967296 ^ l.length := Nat.pow_pos (by omega)
  generalize 4294967296 ^ l.length = p at *
  have hr0 : r = 0 := by
    rcases Nat.eq_zero_or_pos r with h | h
    · exact h
    · have := Nat.mul_le_mul_left p h; omega
  subst hr0
  have hb0 : br = 0 := by
    rcases Nat.eq_zero_or_pos br with h | h
    · exact h
    · have := Nat.mul_le_mul_left p h; omega
  subst hb0
  omega

set_option maxHeartbeats 400000 in
theorem sub_l {w : World} {u v : Value} {l m : List Nat} (hu : IsW w u l) (hv : IsW w v m) (hle : val m ≤ val l) :
    Calls Try.prog 143 #[u, v] w fun e w' => (∃ r, e = .returned r ∧ IsW w' r (digs (val l - val m)) ∧ (∀ b, r.ownBlock = some b → w.heap.size ≤ b)) ∧ Below w.heap.size w w' := by
  have HU := Lib.hid hu
  have HV := Lib.hid hv
  have hll := hu.len
  have HLE := Lib.hid hle
  obtain ⟨a, cap, rfl, h1, h2, h3, h4, h5⟩ := hu
  have H4 := Lib.hid h4
  clear h3 h4 h5 hle hv
  go_enter Try.func143, Try.ntmps143
  go_wp2_with (at_make; refine wpList_make_words rfl _ _ _ _ rfl uw iu32 l.length rfl rfl hll ?_; intro w1 hb1 hbel hs1; refine halt ?_)
  refine go_on ?_
  go_wp2_with fail
  go_loopw [6, 15] (fun c i wr => ∃ (k br : Nat) (M : List Nat), k ≤ l.length ∧ i = .int .i64 k ∧ c = .int .u64 br ∧ br ≤ 1 ∧ Blk wr w.heap.size 40 M ∧ Hid (Ws M) ∧ Hid (M.length = l.length) ∧ Below w.heap.size w wr ∧
      Hid (pv M 0 k + pv m 0 k = pv l 0 k + 4294967296 ^ k * br)) (fun _ i _ => l.length - (intOf i).toNat)
  case atStart => exact ⟨0, 0, _, Nat.zero_le _, rfl, rfl, by omega, hb1, Lib.hid (ws_replicate _), Lib.hid (by simp), hbel, Lib.hid (by simp [pv_zero])⟩
  case round =>
    obtain ⟨k, br, M, hk, rfl, rfl, hbr, hM, hMw, hMl, hon, hval⟩ := hrel
    by_cases hkn : k < l.length
    · have hx := ws_nth HU.out.ws k
      have hy := ws_nth HV.out.ws k
      obtain ⟨b, off, rfl, hlt, -⟩ := H4.out (by intro e; simp at e; subst e; simp at hkn)
      have hcell0 := HU.out.cell k hkn
      have hcell : wr.cell? ⟨b, off + k, none⟩ = some (.int .u32 (nth l k)) := by rw [hon.cell (p := ⟨b, off + k, none⟩) hlt]; exact hcell0
      have hcellM := hM.cell k (by have := hMl.out; omega)
      have hfree := hM.free k
      clear hcell0
      have w1 := subU_wrap (nth l k) (nth m k) (by omega) (by omega)
      have w2 := subU_wrap (subU (nth l k) (nth m k)) br (subU_lt _ _) (by omega)
      have w3 := subU_lt (subU (nth l k) (nth m k)) br
      go_wp2_with fail
      refine (at_w (HV.out.below hon) k).mono ?_
      rintro en w2 ⟨rfl, rfl⟩
      go_wp2_with fail
      go_roundw
      case rel =>
        have hw := subU_word (nth l k) (nth m k) br hx hy hbr
        exact ⟨k + 1, subU (subU (nth l k) (nth m k)) br / 9223372036854775808, M.set k (subU (subU (nth l k) (nth m k)) br % 4294967296), by omega, by go_num, by go_num, hw.2,
          hM.setCell k _ _ (by unfold U; go_num), Lib.hid (ws_set hMw.out _ (by omega)), Lib.hid (by rw [List.length_set]; exact hMl.out), hon.setCell (Nat.le_refl _) _,
          Lib.hid (sub_step (by have := hMl.out; omega) HU.out.ws HV.out.ws hbr (by simpa using hval.out))⟩
      case measure => simp [intOf]; omega
    · obtain rfl : k = l.length := by omega
      have hMv := Lib.hid (sub_end HU.out.ws hMw.out hMl.out HLE.out hval.out)
      have hI := hM.isW_all hMw.out l.length (by have := hMl.out; omega) (by have := hMl.out; omega)
      rw [hMl.out] at hI
      have HI := Lib.hid hI
      clear hI
      go_wp2_with fail
      refine (trim_d HI.out hMv.out).mono ?_
      rintro en w4 ⟨⟨r, rfl, hr, hown⟩, rfl⟩
      go_wp2_with fail
      go_ret
      refine ⟨⟨r, rfl, hr, fun x hx => ?_⟩, hon⟩
      have := hown x hx
      simp [Value.ownBlock] at this
      omega

theorem sub_w {w : World} {u v : Value} {x y : Nat} (hu : IsW w u (digs x)) (hv : IsW w v (digs y)) (hle : y ≤ x) :
    Calls Try.prog 143 #[u, v] w fun e w' => (∃ r, e = .returned r ∧ IsW w' r (digs (x - y)) ∧ (∀ b, r.ownBlock = some b → w.heap.size ≤ b)) ∧ Below w.heap.size w w' := by
  have := sub_l hu hv (by rwa [val_digs, val_digs])
  rwa [val_digs, val_digs] at this
end Go.Proofs.Ytebgkfcglmjokaa
