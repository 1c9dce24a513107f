/- Sums, differences, shifts of words. -/
import Derived.Test.YtebgkfcglmjokaaWb
namespace Go.Proofs.Ytebgkfcglmjokaa
open Go.RowKit

theorem add_room {l m L' : List Nat} (hl : Ws l) (hm : Ws m) (hlen : m.length ≤ l.length) (hl' : L'.length = (l ++ List.replicate (l.length + 1 - l.length) 0).length)
    (hv : pv L' 0 (l.length + 1) = (pv (l ++ List.replicate (l.length + 1 - l.length) 0) 0 (l.length + 1) + val m) % 4294967296 ^ (l.length + 1)) : val L' = val l + val m := by
  have e1 : (l ++ List.replicate (l.length + 1 - l.length) 0).length = l.length + 1 := by simp
  rw [pv_eq_val (by omega), pv_eq_val e1, val_append, val_replicate] at hv
  rw [hv, Nat.mul_zero, Nat.add_zero]
  refine Nat.mod_eq_of_lt ?_
  have h1 := val_lt hl
  have h2 := val_lt hm
  have h3 : 4294967296 ^ m.length ≤ 4294967296 ^ l.length := Nat.pow_le_pow_right (by omega) hlen
  rw [Nat.pow_succ]
  omega

set_option maxHeartbeats 400000 in
theorem add_l {w : World} {u v : Value} {l m : List Nat} (hu : IsW w u l) (hv : IsW w v m) (hl : l.length < 1073741824) (hm : m.length < 1073741824) :
    Calls Try.prog 122 #[u, v] w fun e w' => (∃ r, e = .returned r ∧ IsW w' r (digs (val l + val m)) ∧ (∀ b, r.ownBlock = some b → w.heap.size ≤ b)) ∧ Below w.heap.size w w' := by
  have HU := Lib.hid hu
  have HV := Lib.hid hv
  obtain ⟨a, cap, rfl, h1, h2, h3, h4, h5⟩ := hu
  obtain ⟨b, bcap, rfl, k1, k2, k3, k4, k5⟩ := hv
  clear h3 h4 h5 k3 k4 k5
  by_cases hlen : l.length < m.length
  · go_enter Try.func122, Try.ntmps122
    go_wp2_with (at_make; refine wpList_make_words rfl _ _ _ _ rfl uw iu32 (m.length + 1) rfl rfl hm ?_; intro w1 hb1 hbel hs1; refine halt ?_)
    refine go_on ?_
    go_wp2_with ((with_reducible refine at_copy ?_); refine wpList_copy_words rfl (.tmp 17) (.tmp 18) _ _ rfl _ uw su32 _ 0 _ _ _ m _ _ rfl rfl (HV.out.below hbel) hb1 (by omega) (by simp) ?_; intro w2 hb2 hon; refine halt ?_)
    refine go_on ?_
    rw [copied_new] at hb2
    go_wp2_with fail
    refine (increase_w hb2 (ws_append HV.out.ws (ws_replicate _)) (by simp) (by simp; omega) ((HU.out.below hbel).only0 hon (HU.out.own_ne (Nat.le_refl _))) (HU.out.own_ne (Nat.le_refl _))).mono ?_
    rintro en w3 ⟨rfl, L', hb3, hw3, hl3, hon3, -, hv3⟩
    have HV3 := Lib.hid (add_room HV.out.ws HU.out.ws (by omega) hl3 hv3)
    have HL3 := Lib.hid hl3
    clear hv3 hl3
    have hL3 : L'.length = m.length + 1 := by have := HL3.out; simp at this; omega
    have hI := hb3.isW_all hw3 (m.length + 1) (by omega) (by omega)
    rw [hL3] at hI
    have HI := Lib.hid hI
    clear hL3 hI
    go_wp2_with fail
    refine (trim_d HI.out HV3.out).mono ?_
    rintro en w4 ⟨⟨r, rfl, hr, hown⟩, rfl⟩
    go_wp2_with fail
    go_ret
    refine ⟨⟨r, rfl, by rw [Nat.add_comm]; exact hr, fun x hx => ?_⟩, below_only (below_only hbel hon (Nat.le_refl _)) hon3 (Nat.le_refl _)⟩
    have := hown x hx
    simp [Value.ownBlock] at this
    omega
  · go_enter Try.func122, Try.ntmps122
    go_wp2_with (at_make; refine wpList_make_words rfl _ _ _ _ rfl uw iu32 (l.length + 1) rfl rfl hl ?_; intro w1 hb1 hbel hs1; refine halt ?_)
    refine go_on ?_
    go_wp2_with ((with_reducible refine at_copy ?_); refine wpList_copy_words rfl (.tmp 17) (.tmp 18) _ _ rfl _ uw su32 _ 0 _ _ _ l _ _ rfl rfl (HU.out.below hbel) hb1 (by omega) (by simp) ?_; intro w2 hb2 hon; refine halt ?_)
    refine go_on ?_
    rw [copied_new] at hb2
    go_wp2_with fail
    refine (increase_w hb2 (ws_append HU.out.ws (ws_replicate _)) (by simp) (by simp; omega) ((HV.out.below hbel).only0 hon (HV.out.own_ne (Nat.le_refl _))) (HV.out.own_ne (Nat.le_refl _))).mono ?_
    rintro en w3 ⟨rfl, L', hb3, hw3, hl3, hon3, -, hv3⟩
    have HV3 := Lib.hid (add_room HU.out.ws HV.out.ws (by omega) hl3 hv3)
    have HL3 := Lib.hid hl3
    clear hv3 hl3
    have hL3 : L'.length = l.length + 1 := by have := HL3.out; simp at this; omega
    have hI := hb3.isW_all hw3 (l.length + 1) (by omega) (by omega)
    rw [hL3] at hI
    have HI := Lib.hid hI
    clear hL3 hI
    go_wp2_with fail
    refine (trim_d HI.out HV3.out).mono ?_
    rintro en w4 ⟨⟨r, rfl, hr, hown⟩, rfl⟩
    go_wp2_with fail
    go_ret
    refine ⟨⟨r, rfl, by exact hr, fun x hx => ?_⟩, below_only (below_only hbel hon (Nat.le_refl _)) hon3 (Nat.le_refl _)⟩
    have := hown x hx
    simp [Value.ownBlock] at this
    omega

theorem add_w {w : World} {u v : Value} {x y : Nat} (hu : IsW w u (digs x)) (hv : IsW w v (digs y)) (hl : (digs x).length < 1073741824) (hm : (digs y).length < 1073741824) :
    Calls Try.prog 122 #[u, v] w fun e w' => (∃ r, e = .returned r ∧ IsW w' r (digs (x + y)) ∧ (∀ b, r.ownBlock = some b → w.heap.size ≤ b)) ∧ Below w.heap.size w w' := by
  have := add_l hu hv hl hm
  rwa [val_digs, val_digs] at this
end Go.Proofs.Ytebgkfcglmjokaa
