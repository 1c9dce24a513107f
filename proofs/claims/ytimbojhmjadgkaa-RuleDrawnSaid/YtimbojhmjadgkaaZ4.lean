/- Several texts in one: Wb, Wd, We. -/
import Derived.Test.YtimbojhmjadgkaaZ3
/- The functions of words that make words of their own: sums, differences, shifts. -/
namespace Go.Proofs.Ytimbojhmjadgkaa
open Go.RowKit

theorem uw : Try.prog.underlying 48 = some (.slice 62) := Try.underlying48
theorem iu32 : (Try.prog.info? 62).map (fun i => (i.zero, i.size, i.bytes)) = some (some (.int .u32 0), 1, 4) := by kernel_rfl
theorem su32 : (Try.prog.info? 62).map (·.size) = some 1 := by kernel_rfl

set_option maxHeartbeats 400000 in
theorem clone_b {w : World} {v : Value} {l : List Nat} (h : IsW w v l) (hx : 0 < l.length) :
    Calls Try.prog 43 #[v] w fun e w' => e = .returned (.slice (some ⟨w.heap.size, 0, none⟩) l.length l.length) ∧ Blk w' w.heap.size 62 l ∧ Below w.heap.size w w' ∧ w'.heap.size = w.heap.size + 1 := by
  have hx' : nilB l = false := by simp [nilB]; intro e; subst e; simp at hx
  have hl := h.len
  obtain ⟨a, cap, rfl, h1, h2, h3, h4, h5⟩ := id h
  have H := Lib.hid h
  clear hx h3 h4 h5 h
  go_enter Try.func43, Try.ntmps43
  go_wp2_with fail
  refine (isZero_v H.out).mono ?_
  rintro e w' ⟨rfl, rfl⟩
  go_wp2_with (at_make; refine wpList_make_words rfl _ _ _ _ rfl uw iu32 l.length rfl rfl hl ?_; intro w1 hb1 hbel hs1; refine halt ?_)
  refine go_on ?_
  go_wp2_with ((with_reducible refine at_copy ?_); refine wpList_copy_words rfl (.tmp 9) (.tmp 10) _ _ rfl _ uw su32 _ 0 _ _ _ l _ _ rfl rfl (H.out.below hbel) hb1 (Nat.le_refl _) (by simp) ?_; intro w2 hb2 hon; refine halt ?_)
  refine go_on ?_
  go_wp2_with fail
  go_ret
  refine ⟨rfl, by simpa using hb2, below_only hbel hon (Nat.le_refl _), by rw [hon.size]; exact hs1.out⟩

set_option maxHeartbeats 400000 in
theorem clone_w {w : World} {v : Value} {l : List Nat} (h : IsW w v l) :
    Calls Try.prog 43 #[v] w fun e w' => (∃ v', e = .returned v' ∧ IsW w' v' l ∧ (∀ b, v'.ownBlock = some b → w.heap.size ≤ b)) ∧ Below w.heap.size w w' := by
  by_cases hx : l.length = 0
  · have hx' : nilB l = true := by simp [nilB, hx]
    obtain rfl : l = [] := List.eq_nil_of_length_eq_zero hx
    clear hx
    go_enter Try.func43, Try.ntmps43
    go_wp2_with fail
    refine (isZero_v h).mono ?_
    rintro e w' ⟨rfl, rfl⟩
    go_wp2_with fail
    go_ret
    exact ⟨⟨.slice none 0 0, rfl, IsW.nil _, by simp [Value.ownBlock]⟩, Below.refl _ _⟩
  · refine (clone_b h (by omega)).mono ?_
    rintro e w' ⟨rfl, hb, hbel, -⟩
    exact ⟨⟨_, rfl, hb.isW_all h.ws _ (Nat.le_refl _) h.len, fun b hb => by simp [Value.ownBlock] at hb; omega⟩, hbel⟩

set_option maxHeartbeats 400000 in
theorem increase_w {w : World} {B off n cap : Nat} {e : TypeId} {vb : Value} {L lb : List Nat} (hL : Blk w B e L) (hw : Ws L) (hn : off + n ≤ L.length) (hlen : L.length ≤ 2147483648)
    (hb : IsW w vb lb) (hne : lb ≠ [] → vb.ownBlock ≠ some B) :
    Calls Try.prog 77 #[.slice (some ⟨B, off, none⟩) n cap, vb] w fun en w' => en = .returned (.tuple #[]) ∧
      ∃ L', Blk w' B e L' ∧ Ws L' ∧ L'.length = L.length ∧ Only B w w' ∧ (∀ j, (j < off ∨ off + n ≤ j) → nth L' j = nth L j) ∧ pv L' off n = (pv L off n + val lb) % 4294967296 ^ n := by
  have HW := Lib.hid hw
  have HB := Lib.hid hb
  obtain ⟨ab, capb, rfl, h1, h2, h3, h4, h5⟩ := hb
  clear h3 h4 h5 hw
  go_enter Try.func77, Try.ntmps77
  go_wp2
  go_loopw [4, 8] (fun c i wr => ∃ (k cr : Nat) (M : List Nat), k ≤ n ∧ i = .int .i64 k ∧ c = .int .u64 cr ∧ cr ≤ 1 ∧ Blk wr B e M ∧ Hid (Ws M) ∧ Hid (M.length = L.length) ∧ Only B w wr ∧
      Hid (∀ j, (j < off ∨ off + k ≤ j) → nth M j = nth L j) ∧ Hid (pv M off k + 4294967296 ^ k * cr = pv L off k + pv lb 0 k)) (fun _ i _ => n - (intOf i).toNat)
  case atStart => exact ⟨0, 0, L, Nat.zero_le _, rfl, rfl, by omega, hL, HW, Lib.hid rfl, Only.refl _ _, Lib.hid (fun _ _ => rfl), Lib.hid (by simp [pv_zero])⟩
  case round =>
    obtain ⟨k, cr, M, hk, rfl, rfl, hcr, hM, hMw, hMl, hon, hsame, hval⟩ := hrel
    by_cases hkn : k < n
    · have hx := ws_nth hMw.out (off + k)
      have hy := ws_nth HB.out.ws k
      have hcell := hM.cell (off + k) (by have := hMl.out; omega)
      have hfree := hM.free (off + k)
      have w1 : IntKind.u64.wrap (nth M (off + k) : Int) = (nth M (off + k) : Int) := IntWalk.u64_in _ (by omega)
      have w2 : IntKind.u64.wrap ((nth M (off + k) : Int) + (nth lb k : Int)) = (nth M (off + k) : Int) + (nth lb k : Int) := IntWalk.u64_in _ (by omega)
      have w3 : IntKind.u64.wrap ((cr : Int) + ((nth M (off + k) : Int) + (nth lb k : Int))) = (cr : Int) + ((nth M (off + k) : Int) + (nth lb k : Int)) := IntWalk.u64_in _ (by omega)
      by_cases hkl : lb.length ≤ k
      · by_cases hc0 : cr = 0
        · subst hc0
          clear w1 w2 w3
          go_wp2
          refine bodyPost_ret (results_none rfl _ _ _) rfl ?_
          refine ⟨rfl, M, hM, hMw.out, hMl.out, hon, fun j hj => hsame.out j (by omega), ?_⟩
          exact inc_stop hMw.out hk hkl (fun j hj => hsame.out j (Or.inr hj)) hval.out
        · have hc0' : ((cr : Int) == 0) = false := by simp; omega
          clear hc0
          go_wp2
          go_quiet ((go_at_call 83; exact quiet_left (at_w ((HB.out.only0 hon hne).drewN _) _)))
          clear w1 w2 w3
          go_wp2
          go_roundw
          case rel =>
            exact ⟨k + 1, (cr + (nth M (off + k) + nth lb k)) / 4294967296, M.set (off + k) ((cr + (nth M (off + k) + nth lb k)) % 4294967296), by omega, by go_num, by go_num, by omega,
              (hM.drewN nq).setCell (off + k) _ _ (by unfold U; go_num), Lib.hid (ws_set hMw.out _ (by omega)), Lib.hid (by rw [List.length_set]; exact hMl.out), (hon.drewN nq).setCell _ _,
              Lib.hid (fun j hj => by rw [nth_set_ne _ _ _ _ (by omega)]; exact hsame.out j (by omega)),
              Lib.hid (inc_step (by have := hMl.out; omega) rfl (hsame.out _ (by omega)) hval.out)⟩
          case measure => simp [intOf]; omega
      · go_wp2
        go_quiet ((go_at_call 83; exact quiet_left (at_w ((HB.out.only0 hon hne).drewN _) _)))
        clear w1 w2 w3
        go_wp2
        go_roundw
        case rel =>
          exact ⟨k + 1, (cr + (nth M (off + k) + nth lb k)) / 4294967296, M.set (off + k) ((cr + (nth M (off + k) + nth lb k)) % 4294967296), by omega, by go_num, by go_num, by omega,
            (hM.drewN nq).setCell (off + k) _ _ (by unfold U; go_num), Lib.hid (ws_set hMw.out _ (by omega)), Lib.hid (by rw [List.length_set]; exact hMl.out), (hon.drewN nq).setCell _ _,
            Lib.hid (fun j hj => by rw [nth_set_ne _ _ _ _ (by omega)]; exact hsame.out j (by omega)),
            Lib.hid (inc_step (by have := hMl.out; omega) rfl (hsame.out _ (by omega)) hval.out)⟩
        case measure => simp [intOf]; omega
    · obtain rfl : k = n := by omega
      go_wp2
      go_end0
      exact ⟨rfl, M, hM, hMw.out, hMl.out, hon, fun j hj => hsame.out j hj, inc_end hMw.out hval.out⟩
end Go.Proofs.Ytimbojhmjadgkaa

/- Sums, differences, shifts of words. -/
namespace Go.Proofs.Ytimbojhmjadgkaa
open Go.RowKit

theorem add_room {l m L' : List Nat} (hl : Ws l) (hm : Ws m) (hlen : m.length ≤ l.length) (hl' : L'.length = (l ++ List.replicate (l.length + 1 - l.length) 0).length)
    (hv : pv L' 0 (l.length + 1) = (pv (l ++ List.replicate (l.length + 1 - l.length) 0) 0 (l.length + 1) + val m) % 4294967296 ^ (l.length + 1)) : val L' = val l + val m := by
  have e1 : (l ++ List.replicate (l.length + 1 - l.length) 0).length = l.length + 1 := by simp
  rw [pv_eq_val (by omega), pv_eq_val e1, val_append, val_replicate] at hv
  rw [hv, Nat.mul_zero, Nat.add_zero]
  refine Nat.mod_eq_of_lt ?_
  have h1 := val_lt hl
  have h2 := val_lt hm
  have h3 : 4294967296 ^ m.length ≤ 4294967296 ^ l.length := Nat.pow_le_pow_right (by omega) hlen
  rw [Nat.pow_succ]
  omega

set_option maxHeartbeats 400000 in
theorem add_l {w : World} {u v : Value} {l m : List Nat} (hu : IsW w u l) (hv : IsW w v m) (hl : l.length < 1073741824) (hm : m.length < 1073741824) :
    Calls Try.prog 73 #[u, v] w fun e w' => (∃ r, e = .returned r ∧ IsW w' r (digs (val l + val m)) ∧ (∀ b, r.ownBlock = some b → w.heap.size ≤ b)) ∧ Below w.heap.size w w' := by
  have HU := Lib.hid hu
  have HV := Lib.hid hv
  obtain ⟨a, cap, rfl, h1, h2, h3, h4, h5⟩ := hu
  obtain ⟨b, bcap, rfl, k1, k2, k3, k4, k5⟩ := hv
  clear h3 h4 h5 k3 k4 k5
  by_cases hlen : l.length < m.length
  · go_enter Try.func73, Try.ntmps73
    go_wp2_with (at_make; refine wpList_make_words rfl _ _ _ _ rfl uw iu32 (m.length + 1) rfl rfl hm ?_; intro w1 hb1 hbel hs1; refine halt ?_)
    refine go_on ?_
    go_wp2_with ((with_reducible refine at_copy ?_); refine wpList_copy_words rfl (.tmp 17) (.tmp 18) _ _ rfl _ uw su32 _ 0 _ _ _ m _ _ rfl rfl (HV.out.below hbel) hb1 (by omega) (by simp) ?_; intro w2 hb2 hon; refine halt ?_)
    refine go_on ?_
    rw [copied_new] at hb2
    go_wp2_with fail
    refine (increase_w hb2 (ws_append HV.out.ws (ws_replicate _)) (by simp) (by simp; omega) ((HU.out.below hbel).only0 hon (HU.out.own_ne (Nat.le_refl _))) (HU.out.own_ne (Nat.le_refl _))).mono ?_
    rintro en w3 ⟨rfl, L', hb3, hw3, hl3, hon3, -, hv3⟩
    have HV3 := Lib.hid (add_room HV.out.ws HU.out.ws (by omega) hl3 hv3)
    have HL3 := Lib.hid hl3
    clear hv3 hl3
    have hL3 : L'.length = m.length + 1 := by have := HL3.out; simp at this; omega
    have hI := hb3.isW_all hw3 (m.length + 1) (by omega) (by omega)
    rw [hL3] at hI
    have HI := Lib.hid hI
    clear hL3 hI
    go_wp2_with fail
    refine (trim_d HI.out HV3.out).mono ?_
    rintro en w4 ⟨⟨r, rfl, hr, hown⟩, rfl⟩
    go_wp2_with fail
    go_ret
    refine ⟨⟨r, rfl, by rw [Nat.add_comm]; exact hr, fun x hx => ?_⟩, below_only (below_only hbel hon (Nat.le_refl _)) hon3 (Nat.le_refl _)⟩
    have := hown x hx
    simp [Value.ownBlock] at this
    omega
  · go_enter Try.func73, Try.ntmps73
    go_wp2_with (at_make; refine wpList_make_words rfl _ _ _ _ rfl uw iu32 (l.length + 1) rfl rfl hl ?_; intro w1 hb1 hbel hs1; refine halt ?_)
    refine go_on ?_
    go_wp2_with ((with_reducible refine at_copy ?_); refine wpList_copy_words rfl (.tmp 17) (.tmp 18) _ _ rfl _ uw su32 _ 0 _ _ _ l _ _ rfl rfl (HU.out.below hbel) hb1 (by omega) (by simp) ?_; intro w2 hb2 hon; refine halt ?_)
    refine go_on ?_
    rw [copied_new] at hb2
    go_wp2_with fail
    refine (increase_w hb2 (ws_append HU.out.ws (ws_replicate _)) (by simp) (by simp; omega) ((HV.out.below hbel).only0 hon (HV.out.own_ne (Nat.le_refl _))) (HV.out.own_ne (Nat.le_refl _))).mono ?_
    rintro en w3 ⟨rfl, L', hb3, hw3, hl3, hon3, -, hv3⟩
    have HV3 := Lib.hid (add_room HU.out.ws HV.out.ws (by omega) hl3 hv3)
    have HL3 := Lib.hid hl3
    clear hv3 hl3
    have hL3 : L'.length = l.length + 1 := by have := HL3.out; simp at this; omega
    have hI := hb3.isW_all hw3 (l.length + 1) (by omega) (by omega)
    rw [hL3] at hI
    have HI := Lib.hid hI
    clear hL3 hI
    go_wp2_with fail
    refine (trim_d HI.out HV3.out).mono ?_
    rintro en w4 ⟨⟨r, rfl, hr, hown⟩, rfl⟩
    go_wp2_with fail
    go_ret
    refine ⟨⟨r, rfl, by exact hr, fun x hx => ?_⟩, below_only (below_only hbel hon (Nat.le_refl _)) hon3 (Nat.le_refl _)⟩
    have := hown x hx
    simp [Value.ownBlock] at this
    omega

theorem add_w {w : World} {u v : Value} {x y : Nat} (hu : IsW w u (digs x)) (hv : IsW w v (digs y)) (hl : (digs x).length < 1073741824) (hm : (digs y).length < 1073741824) :
    Calls Try.prog 73 #[u, v] w fun e w' => (∃ r, e = .returned r ∧ IsW w' r (digs (x + y)) ∧ (∀ b, r.ownBlock = some b → w.heap.size ≤ b)) ∧ Below w.heap.size w w' := by
  have := add_l hu hv hl hm
  rwa [val_digs, val_digs] at this
end Go.Proofs.Ytimbojhmjadgkaa

/- Differences of words. -/
namespace Go.Proofs.Ytimbojhmjadgkaa
open Go.RowKit

/-- A difference of words as the program computes it, modulo 2^64; its low word; what is borrowed. -/
def subU (x y : Nat) : Nat := (x + 18446744073709551616 - y) % 18446744073709551616
theorem subU_wrap (x y : Nat) (hx : x < 18446744073709551616) (hy : y < 18446744073709551616) : IntKind.u64.wrap ((x : Int) - (y : Int)) = (subU x y : Int) := by
  rw [IntKind.wrap_u64]; unfold subU; omega
theorem subU_lt (x y : Nat) : subU x y < 18446744073709551616 := Nat.mod_lt _ (by omega)

theorem subU_word (x y br : Nat) (hx : x < 4294967296) (hy : y < 4294967296) (hb : br ≤ 1) :
    subU (subU x y) br % 4294967296 + y + br = x + 4294967296 * (subU (subU x y) br / 9223372036854775808) ∧ subU (subU x y) br / 9223372036854775808 ≤ 1 := by
  have h1 : subU x y = if y ≤ x then x - y else x + 18446744073709551616 - y := by unfold subU; split <;> omega
  have h2 : subU (subU x y) br = if y + br ≤ x then x - y - br else x + 18446744073709551616 - y - br := by
    rw [h1]; unfold subU; split <;> split <;> omega
  rw [h2]
  split <;> omega

theorem sub_step {l m M : List Nat} {k br : Nat} (hk : k < M.length) (hl : Ws l) (hm : Ws m) (hb : br ≤ 1) (hv : pv M 0 k + pv m 0 k + 4294967296 ^ k * 0 = pv l 0 k + 4294967296 ^ k * br) :
    pv (M.set k (subU (subU (nth l k) (nth m k)) br % 4294967296)) 0 (k + 1) + pv m 0 (k + 1) = pv l 0 (k + 1) + 4294967296 ^ (k + 1) * (subU (subU (nth l k) (nth m k)) br / 9223372036854775808) := by
  have h := (subU_word (nth l k) (nth m k) br (ws_nth hl k) (ws_nth hm k) hb).1
  have e := pv_set M 0 k (subU (subU (nth l k) (nth m k)) br % 4294967296) (by omega)
  rw [Nat.zero_add] at e
  rw [e, pv_succ, pv_succ, Nat.zero_add, Nat.pow_succ]
  generalize subU (subU (nth l k) (nth m k)) br % 4294967296 = d at *
  generalize subU (subU (nth l k) (nth m k)) br / 9223372036854775808 = q at *
  generalize 4294967296 ^ k = p at *
  have : p * (d + nth m k + br) = p * (nth l k + 4294967296 * q) := by rw [h]
  grind

theorem sub_end {l m M : List Nat} {br : Nat} (hl : Ws l) (hM : Ws M) (hlen : M.length = l.length) (hle : val m ≤ val l) (hv : pv M 0 l.length + pv m 0 l.length = pv l 0 l.length + 4294967296 ^ l.length * br) : val M = val l - val m := by
  obtain ⟨r, hr⟩ := val_split' m l.length
  have h1 := val_lt hl
  have h2 := val_lt hM
  rw [pv_eq_val hlen, pv_eq_val rfl] at hv
  rw [hlen] at h2
  have hp : 0 < 4294967296 ^ l.length := Nat.pow_pos (by omega)
  generalize 4294967296 ^ l.length = p at *
  have hr0 : r = 0 := by
    rcases Nat.eq_zero_or_pos r with h | h
    · exact h
    · have := Nat.mul_le_mul_left p h; omega
  subst hr0
  have hb0 : br = 0 := by
    rcases Nat.eq_zero_or_pos br with h | h
    · exact h
    · have := Nat.mul_le_mul_left p h; omega
  subst hb0
  omega

set_option maxHeartbeats 400000 in
theorem sub_l {w : World} {u v : Value} {l m : List Nat} (hu : IsW w u l) (hv : IsW w v m) (hle : val m ≤ val l) :
    Calls Try.prog 74 #[u, v] w fun e w' => (∃ r, e = .returned r ∧ IsW w' r (digs (val l - val m)) ∧ (∀ b, r.ownBlock = some b → w.heap.size ≤ b)) ∧ Below w.heap.size w w' := by
  have HU := Lib.hid hu
  have HV := Lib.hid hv
  have hll := hu.len
  have HLE := Lib.hid hle
  obtain ⟨a, cap, rfl, h1, h2, h3, h4, h5⟩ := hu
  have H4 := Lib.hid h4
  clear h3 h4 h5 hle hv
  go_enter Try.func74, Try.ntmps74
  go_wp2_with (at_make; refine wpList_make_words rfl _ _ _ _ rfl uw iu32 l.length rfl rfl hll ?_; intro w1 hb1 hbel hs1; refine halt ?_)
  refine go_on ?_
  go_wp2_with fail
  go_loopw [6, 15] (fun c i wr => ∃ (k br : Nat) (M : List Nat), k ≤ l.length ∧ i = .int .i64 k ∧ c = .int .u64 br ∧ br ≤ 1 ∧ Blk wr w.heap.size 62 M ∧ Hid (Ws M) ∧ Hid (M.length = l.length) ∧ Below w.heap.size w wr ∧
      Hid (pv M 0 k + pv m 0 k = pv l 0 k + 4294967296 ^ k * br)) (fun _ i _ => l.length - (intOf i).toNat)
  case atStart => exact ⟨0, 0, _, Nat.zero_le _, rfl, rfl, by omega, hb1, Lib.hid (ws_replicate _), Lib.hid (by simp), hbel, Lib.hid (by simp [pv_zero])⟩
  case round =>
    obtain ⟨k, br, M, hk, rfl, rfl, hbr, hM, hMw, hMl, hon, hval⟩ := hrel
    by_cases hkn : k < l.length
    · have hx := ws_nth HU.out.ws k
      have hy := ws_nth HV.out.ws k
      obtain ⟨b, off, rfl, hlt, -⟩ := H4.out (by intro e; simp at e; subst e; simp at hkn)
      have hcell0 := HU.out.cell k hkn
      have hcell : wr.cell? ⟨b, off + k, none⟩ = some (.int .u32 (nth l k)) := by rw [hon.cell (p := ⟨b, off + k, none⟩) hlt]; exact hcell0
      have hcellM := hM.cell k (by have := hMl.out; omega)
      have hfree := hM.free k
      clear hcell0
      have w1 := subU_wrap (nth l k) (nth m k) (by omega) (by omega)
      have w2 := subU_wrap (subU (nth l k) (nth m k)) br (subU_lt _ _) (by omega)
      have w3 := subU_lt (subU (nth l k) (nth m k)) br
      go_wp2_with fail
      refine (at_w (HV.out.below hon) k).mono ?_
      rintro en w2 ⟨rfl, rfl⟩
      go_wp2_with fail
      go_roundw
      case rel =>
        have hw := subU_word (nth l k) (nth m k) br hx hy hbr
        exact ⟨k + 1, subU (subU (nth l k) (nth m k)) br / 9223372036854775808, M.set k (subU (subU (nth l k) (nth m k)) br % 4294967296), by omega, by go_num, by go_num, hw.2,
          hM.setCell k _ _ (by unfold U; go_num), Lib.hid (ws_set hMw.out _ (by omega)), Lib.hid (by rw [List.length_set]; exact hMl.out), hon.setCell (Nat.le_refl _) _,
          Lib.hid (sub_step (by have := hMl.out; omega) HU.out.ws HV.out.ws hbr (by simpa using hval.out))⟩
      case measure => simp [intOf]; omega
    · obtain rfl : k = l.length := by omega
      have hMv := Lib.hid (sub_end HU.out.ws hMw.out hMl.out HLE.out hval.out)
      have hI := hM.isW_all hMw.out l.length (by have := hMl.out; omega) (by have := hMl.out; omega)
      rw [hMl.out] at hI
      have HI := Lib.hid hI
      clear hI
      go_wp2_with fail
      refine (trim_d HI.out hMv.out).mono ?_
      rintro en w4 ⟨⟨r, rfl, hr, hown⟩, rfl⟩
      go_wp2_with fail
      go_ret
      refine ⟨⟨r, rfl, hr, fun x hx => ?_⟩, hon⟩
      have := hown x hx
      simp [Value.ownBlock] at this
      omega

theorem sub_w {w : World} {u v : Value} {x y : Nat} (hu : IsW w u (digs x)) (hv : IsW w v (digs y)) (hle : y ≤ x) :
    Calls Try.prog 74 #[u, v] w fun e w' => (∃ r, e = .returned r ∧ IsW w' r (digs (x - y)) ∧ (∀ b, r.ownBlock = some b → w.heap.size ≤ b)) ∧ Below w.heap.size w w' := by
  have := sub_l hu hv (by rwa [val_digs, val_digs])
  rwa [val_digs, val_digs] at this
end Go.Proofs.Ytimbojhmjadgkaa
