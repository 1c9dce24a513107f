/- Several texts in one: Wi, Wj. -/
import Derived.Test.YtlaphdlocchagaaGreatZ4
import Derived.Deep.RegionWith
/- Products by halves. -/
namespace Go.Proofs.YtlaphdlocchagaaGreat
open Go.RowKit

set_option maxHeartbeats 400000 in
theorem cut_short {w : World} {a : Option Addr} {n cap k : Nat} (hn : n ≤ k) :
    Calls Tryz.prog 153 #[.slice a n cap, .int .i64 k] w fun e w' => e = .returned (.tuple #[.slice a n cap, .slice none 0 0]) ∧ w = w' := by
  go_enter Tryz.func153, Tryz.ntmps153
  go_wp2
  go_ret2
  exact ⟨rfl, rfl⟩

set_option maxHeartbeats 400000 in
theorem cut_long {w : World} {b off cap k : Nat} {l : List Nat} (h : IsW w (.slice (some ⟨b, off, none⟩) l.length cap) l) (hk0 : 0 < k) (hk : k < l.length) :
    Calls Tryz.prog 153 #[.slice (some ⟨b, off, none⟩) l.length cap, .int .i64 k] w fun e w' =>
      (∃ lo hi, e = .returned (.tuple #[lo, hi]) ∧ IsW w lo (digs (val (l.take k))) ∧ IsW w hi (l.drop k)) ∧ ∃ n, w' = w.drewN n := by
  have h1 := h.len
  have hcap : l.length ≤ cap := by obtain ⟨_, _, hv, h1, _⟩ := h; cases hv; exact h1
  have hT : IsW w (.slice (some ⟨b, off, none⟩) (l.take k).length k) (l.take k) := by
    have e : (l.take k).length = k := by simp; omega
    rw [e]; exact h.take k k (by omega) (Nat.le_refl _)
  have HT := Lib.hid hT
  have H := Lib.hid h
  have hC : ∀ n, Hid (Calls Tryz.prog 152 #[.slice (some ⟨b, off, none⟩) k k] (w.drewN n) fun e w' => e = .returned (.slice (some ⟨b, off, none⟩) (digs (val (l.take k))).length (digs (val (l.take k))).length) ∧ w.drewN n = w') := fun n => Lib.hid (by
    have e : (l.take k).length = k := by simp; omega
    have := trim_x (HT.out.drewN n)
    rwa [e] at this)
  clear hT h
  go_enter Tryz.func153, Tryz.ntmps153
  go_wp2
  go_quiet ((go_at_call 152; exact quiet_left (hC _).out))
  go_wp2
  go_ret2
  refine ⟨⟨_, _, rfl, HT.out.trim, ?_⟩, _, rfl⟩
  exact H.out.drop k _ _ (by omega) rfl (by omega)
/-- The product's contract, for numbers of so many words together. -/
def MulC (n : Nat) : Prop := ∀ (w : World) (u v : Value) (x y : Nat), IsW w u (digs x) → IsW w v (digs y) → (digs x).length + (digs y).length ≤ n →
  Calls Tryz.prog 104 #[u, v] w fun e w' => (∃ r, e = .returned r ∧ IsW w' r (digs (x * y)) ∧ (∀ b, r.ownBlock = some b → w.heap.size ≤ b ∨ u.ownBlock = some b ∨ v.ownBlock = some b)) ∧ Below w.heap.size w w'

/-- What a half is. -/
def halfN (n : Nat) : Nat := (n + 1) / 2

theorem kara_mid (x y P : Nat) : x % P * (y % P) ≤ (x % P + x / P) * (y % P + y / P) ∧ x / P * (y / P) ≤ (x % P + x / P) * (y % P + y / P) - x % P * (y % P) ∧
    x % P * (y % P) + P * P * (x / P * (y / P)) + P * ((x % P + x / P) * (y % P + y / P) - x % P * (y % P) - x / P * (y / P)) = x * y := by
  have h1 := Nat.mod_add_div x P
  have h2 := Nat.mod_add_div y P
  generalize x % P = a at *
  generalize x / P = b at *
  generalize y % P = c at *
  generalize y / P = d at *
  have e : (a + b) * (c + d) = a * c + b * d + (a * d + b * c) := by grind
  rw [e]
  refine ⟨by omega, by omega, ?_⟩
  rw [show a * c + b * d + (a * d + b * c) - a * c - b * d = a * d + b * c by omega, ← h1, ← h2]
  grind

theorem kara_long {x y half N : Nat} {L3 L10 L11 : List Nat} (h3 : L3.length = N) (v3 : val L3 = x % 4294967296 ^ half * (y % 4294967296 ^ half)) (h10 : L10.length = L3.length)
    (s10 : ∀ j, (j < 2 * half ∨ 2 * half + (N - 2 * half) ≤ j) → nth L10 j = nth L3 j) (v10 : pv L10 (2 * half) (N - 2 * half) = (pv L3 (2 * half) (N - 2 * half) + val (digs (x / 4294967296 ^ half * (y / 4294967296 ^ half)))) % 4294967296 ^ (N - 2 * half))
    (h11 : L11.length = L10.length) (s11 : ∀ j, (j < half ∨ half + (N - half) ≤ j) → nth L11 j = nth L10 j)
    (v11 : pv L11 half (N - half) = (pv L10 half (N - half) + val (digs ((x % 4294967296 ^ half + x / 4294967296 ^ half) * (y % 4294967296 ^ half + y / 4294967296 ^ half) - x % 4294967296 ^ half * (y % 4294967296 ^ half) - x / 4294967296 ^ half * (y / 4294967296 ^ half)))) % 4294967296 ^ (N - half))
    (room : x * y < 4294967296 ^ N) (hN : 2 * half ≤ N) : val L11 = x * y := by
  have hk := (kara_mid x y (4294967296 ^ half)).2.2
  have hp : 4294967296 ^ (2 * half) = 4294967296 ^ half * 4294967296 ^ half := by rw [← Nat.pow_add]; congr 1; omega
  rw [val_digs] at v10 v11
  generalize hm : (x % 4294967296 ^ half + x / 4294967296 ^ half) * (y % 4294967296 ^ half + y / 4294967296 ^ half) - x % 4294967296 ^ half * (y % 4294967296 ^ half) - x / 4294967296 ^ half * (y / 4294967296 ^ half) = mid at *
  have e10 : val L10 = val L3 + 4294967296 ^ (2 * half) * (x / 4294967296 ^ half * (y / 4294967296 ^ half)) :=
    inc_total h10 (by omega) s10 v10 (by rw [h3, v3, hp]; omega)
  have e11 : val L11 = val L10 + 4294967296 ^ half * mid := inc_total h11 (by omega) s11 v11 (by rw [h10, h3, e10, v3, hp]; omega)
  rw [e11, e10, v3, hp]; omega

/-- The product where the shorter number has no second half. -/
theorem kara_short {x y half nl nm N : Nat} {lo L5 : List Nat} (hlo : lo = digs (x % 4294967296 ^ half * y)) (h3 : (lo ++ List.replicate (N - lo.length) 0).length = N) (h5 : L5.length = (lo ++ List.replicate (N - lo.length) 0).length)
    (hs : ∀ j, (j < half ∨ half + (N - half) ≤ j) → nth L5 j = nth (lo ++ List.replicate (N - lo.length) 0) j)
    (hv : pv L5 half (N - half) = (pv (lo ++ List.replicate (N - lo.length) 0) half (N - half) + val (digs (x / 4294967296 ^ half * y))) % 4294967296 ^ (N - half))
    (hx : x < 4294967296 ^ (digs x).length) (hy : y < 4294967296 ^ (digs y).length) (hnl : nl = (digs x).length) (hnm : nm = (digs y).length) (hN : nl + nm ≤ N ∧ half ≤ N) : val L5 = x * y := by
  have e0 : val (lo ++ List.replicate (N - lo.length) 0) = x % 4294967296 ^ half * y := by rw [val_append, val_replicate, hlo, val_digs]; simp
  have e1 : x % 4294967296 ^ half * y + 4294967296 ^ half * (x / 4294967296 ^ half * y) = x * y := by
    have := Nat.mod_add_div x (4294967296 ^ half)
    conv => rhs; rw [← this]
    grind
  rw [val_digs] at hv
  have hroom : val (lo ++ List.replicate (N - lo.length) 0) + 4294967296 ^ half * (x / 4294967296 ^ half * y) < 4294967296 ^ (lo ++ List.replicate (N - lo.length) 0).length := by
    rw [e0, e1, h3]
    refine Nat.lt_of_lt_of_le (Nat.mul_lt_mul'' hx hy) ?_
    rw [← Nat.pow_add]
    exact Nat.pow_le_pow_right (by omega) (by omega)
  rw [inc_total h5 (by omega) hs hv hroom, e0, e1]

set_option maxRecDepth 100000 in
set_option maxHeartbeats 1000000 in
theorem mulHalves_c {n : Nat} (hM : MulC n) {w : World} {u v : Value} {l m : List Nat} {x y : Nat} (hx : l = digs x) (hy : m = digs y) (hu : IsW w u l) (hv : IsW w v m) (hle : m.length ≤ l.length) (h128 : 128 ≤ m.length) (hn : l.length + m.length ≤ n + 1) (hbig : l.length + m.length ≤ 536870912) :
    Calls Tryz.prog 130 #[u, v] w fun e w' => (∃ r, e = .returned r ∧ IsW w' r (digs (x * y)) ∧ (∀ b, r.ownBlock = some b → w.heap.size ≤ b)) ∧ Below w.heap.size w w' := by
  have HX := Lib.hid hx
  have HY := Lib.hid hy
  have HU := Lib.hid hu
  have HV := Lib.hid hv
  obtain ⟨a, cap, rfl, h1, h2, h3, h4, h5⟩ := hu
  obtain ⟨b, bcap, rfl, k1, k2, k3, k4, k5⟩ := hv
  obtain ⟨ab, aoff, rfl, -, -⟩ := h4 (by intro e; simp at e; subst e; simp at hle; subst hle; simp at h128)
  obtain ⟨bb, boff, rfl, -, -⟩ := k4 (by intro e; simp at e; subst e; simp at h128)
  obtain ⟨half, hh⟩ : ∃ half, half = (l.length + 1) / 2 := ⟨_, rfl⟩
  have hh1 : ((l.length : Int) + 1) / 2 = (half : Int) := by omega
  have hh2 : half < l.length := by omega
  have hh3 : 0 < half := by omega
  have hh4 : l.length ≤ half + half := by omega
  have hh5 : half + half ≤ l.length + 1 := by omega
  clear h3 h4 h5 k3 k4 k5 hh hx hy
  go_enter Tryz.func130, Tryz.ntmps130
  go_wp2_with fail
  refine (cut_long HU.out hh3 hh2).mono ?_
  rintro en w1 ⟨⟨a0, a1, rfl, ha0, ha1⟩, n1, rfl⟩
  rw [HX.out, val_take_digs] at ha0
  rw [HX.out, digs_drop] at ha1
  by_cases hlb : m.length ≤ half
  · go_wp2_with fail
    refine (cut_short hlb).mono ?_
    rintro en w2 ⟨rfl, rfl⟩
    have HA0 := Lib.hid ha0
    have HA1 := Lib.hid ha1
    have HVd : Hid (IsW w (.slice (some ⟨bb, boff, none⟩) m.length bcap) (digs y)) := Lib.hid (by rw [← HY.out]; exact HV.out)
    have hL0 : Hid ((digs (x % 4294967296 ^ half)).length ≤ half ∧ (digs (x / 4294967296 ^ half)).length = l.length - half ∧ (digs y).length = m.length) := Lib.hid
      ⟨len_digs_le.2 (Nat.mod_lt _ (Nat.pow_pos (by omega))), by rw [← digs_drop, ← HX.out, List.length_drop], by rw [← HY.out]⟩
    have hLo : Hid ((digs (x % 4294967296 ^ half * y)).length ≤ half + m.length) := Lib.hid (by
      have := len_digs_mul (x % 4294967296 ^ half) y; have := hL0.out; omega)
    clear ha0 ha1
    go_wp2_with (at_make; refine wpList_make_words rfl _ _ _ _ rfl uw iu32 (l.length + m.length + 1) rfl rfl (by omega) ?_; intro w1 hb1 hbel hs1; refine halt ?_)
    refine go_on ?_
    simp only [World.heap_drewN] at hb1 hbel hs1
    replace hbel := below_undraw hbel
    go_wp2_with fail
    refine (hM w1 _ _ _ _ (HA0.out.below hbel) (HVd.out.below hbel) (by have := hL0.out; omega)).mono ?_
    rintro en w2 ⟨⟨r0, rfl, hr0, hown0⟩, hbel2⟩
    have hb2 := hb1.below hbel2 (by have := hs1.out; omega)
    obtain ⟨lo, hlo⟩ : ∃ lo, lo = digs (x % 4294967296 ^ half * y) := ⟨_, rfl⟩
    rw [← hlo] at hr0 hLo
    have HLO := Lib.hid hlo
    have HR0 := Lib.hid hr0
    clear hlo hr0
    go_wp2_with ((with_reducible refine at_copy ?_); refine wpList_copy_words rfl (.tmp 40) (.tmp 41) _ _ rfl _ uw su32 _ 0 _ _ _ lo _ _ rfl rfl HR0.out hb2 (by have := hLo.out; omega) (by have := hLo.out; simp; omega) ?_; intro w3 hb3 hon3; refine halt ?_)
    refine go_on ?_
    rw [copied_new] at hb3
    have hz : nilB [] = true := rfl
    go_wp2_with fail
    refine (isZero_v (IsW.nil _)).mono ?_
    rintro en w3 ⟨rfl, rfl⟩
    go_wp2_with fail
    have hA1 := ((HA1.out.below hbel).below hbel2).only0 hon3 (HA1.out.own_ne (Nat.le_refl _))
    have hV3 := ((HVd.out.below hbel).below hbel2).only0 hon3 (HVd.out.own_ne (Nat.le_refl _))
    have hC := Lib.hid (hM w3.drew _ _ _ _ hA1 hV3 (by have := hL0.out; omega))
    clear hA1 hV3
    have hlen3 : Hid ((lo ++ List.replicate (l.length + m.length + 1 - lo.length) 0).length = l.length + m.length + 1) := Lib.hid (by have := hLo.out; simp; omega)
    have hsz3 : Hid (w.heap.size < w3.heap.size) := Lib.hid (by have := hb3.lt; omega)
    have hws3 : Hid (Ws (lo ++ List.replicate (l.length + m.length + 1 - lo.length) 0)) := Lib.hid (ws_append (by rw [HLO.out]; exact ws_digs _) (ws_replicate _))
    have hneA := Lib.hid (HA1.out.own_ne (Nat.le_refl w.heap.size))
    have hneV := Lib.hid (HVd.out.own_ne (Nat.le_refl w.heap.size))
    go_region_with (first | (go_at_call 104; refine hC.out.mono ?_; rintro en w4 ⟨⟨r1, rfl, hr1, hown1⟩, hbel4⟩) | (go_at_call 154; refine (increase_w (hb3.below (below_undrew hbel4) hsz3.out) hws3.out (by have := hlen3.out; omega) (by have := hlen3.out; omega) hr1 (own_ne0 hown1 hsz3.out hneA.out hneV.out mul_ne1 mul_ne2)).mono ?_; rintro en w5 ⟨rfl, L5, hb5, hw5, hl5, hon5, hs5, hv5⟩))
    all_goals
      have hfin : Hid (val L5 = x * y) := Lib.hid (kara_short HLO.out hlen3.out hl5 hs5 hv5 (lt_of_len_digs x) (lt_of_len_digs y) (by rw [← HX.out]) (by rw [← HY.out]) ⟨by omega, by omega⟩)
      have HL5 := Lib.hid hl5
      clear hl5 hs5 hv5
      have hI := hb5.isW_all hw5 (l.length + m.length + 1) (by have := HL5.out; have := hlen3.out; omega) (by have := HL5.out; have := hlen3.out; omega)
      rw [HL5.out, hlen3.out] at hI
      have HI := Lib.hid hI
      clear hI
      go_wp2_with fail
      refine (trim_d HI.out hfin.out).mono ?_
      rintro en w6 ⟨⟨r, rfl, hr, hown⟩, rfl⟩
      go_wp2_with fail
      go_ret
      refine ⟨⟨r, rfl, hr, fun z hz => ?_⟩, ?_⟩
      · have := hown z hz
        simp [Value.ownBlock] at this
        omega
      · exact below_only (below_trans (below_only (below_trans hbel hbel2) hon3 (Nat.le_refl _)) (below_undrew hbel4)) hon5 (Nat.le_refl _)
  · have hlb' : half < m.length := by omega
    have HA0 := Lib.hid ha0
    have HA1 := Lib.hid ha1
    clear ha0 ha1 hlb
    go_wp2_with fail
    refine (cut_long (HV.out.drewN n1) hh3 hlb').mono ?_
    rintro en w2 ⟨⟨b0, b1, rfl, hb0, hb1⟩, n2, rfl⟩
    rw [HY.out, val_take_digs] at hb0
    rw [HY.out, digs_drop] at hb1
    have HB0 : Hid (IsW w b0 (digs (y % 4294967296 ^ half))) := Lib.hid hb0
    have HB1 : Hid (IsW w b1 (digs (y / 4294967296 ^ half))) := Lib.hid hb1
    clear hb0 hb1
    have hL0 : Hid ((digs (x % 4294967296 ^ half)).length ≤ half ∧ (digs (x / 4294967296 ^ half)).length = l.length - half ∧ (digs (y % 4294967296 ^ half)).length ≤ half ∧ (digs (y / 4294967296 ^ half)).length = m.length - half) := Lib.hid
      ⟨len_digs_le.2 (Nat.mod_lt _ (Nat.pow_pos (by omega))), by rw [← digs_drop, ← HX.out, List.length_drop], len_digs_le.2 (Nat.mod_lt _ (Nat.pow_pos (by omega))), by rw [← digs_drop, ← HY.out, List.length_drop]⟩
    have hLo : Hid ((digs (x % 4294967296 ^ half * (y % 4294967296 ^ half))).length ≤ half + half) := Lib.hid (by
      have := len_digs_mul (x % 4294967296 ^ half) (y % 4294967296 ^ half); have := hL0.out; omega)
    go_wp2_with (at_make; refine wpList_make_words rfl _ _ _ _ rfl uw iu32 (l.length + m.length + 1) rfl rfl (by omega) ?_; intro w1 hb1 hbel hs1; refine halt ?_)
    refine go_on ?_
    simp only [World.heap_drewN] at hb1 hbel hs1
    replace hbel := below_undraw hbel
    try replace hbel := below_undraw hbel
    go_wp2_with fail
    refine (hM w1 _ _ _ _ (HA0.out.below hbel) (HB0.out.below hbel) (by have := hL0.out; omega)).mono ?_
    rintro en w2 ⟨⟨r0, rfl, hr0, hown0⟩, hbel2⟩
    have hb2 := hb1.below hbel2 (by have := hs1.out; omega)
    obtain ⟨lo, hlo⟩ : ∃ lo, lo = digs (x % 4294967296 ^ half * (y % 4294967296 ^ half)) := ⟨_, rfl⟩
    rw [← hlo] at hr0 hLo
    have HLO := Lib.hid hlo
    have HR0 := Lib.hid hr0
    clear hlo hr0
    go_wp2_with ((with_reducible refine at_copy ?_); refine wpList_copy_words rfl (.tmp 40) (.tmp 41) _ _ rfl _ uw su32 _ 0 _ _ _ lo _ _ rfl rfl HR0.out hb2 (by have := hLo.out; omega) (by have := hLo.out; simp; omega) ?_; intro w3 hb3 hon3; refine halt ?_)
    refine go_on ?_
    rw [copied_new] at hb3
    have hsz3 : Hid (w.heap.size < w3.heap.size) := Lib.hid (by have := hb3.lt; omega)
    have nA0 := Lib.hid (HA0.out.own_ne (Nat.le_refl w.heap.size))
    have nA1 := Lib.hid (HA1.out.own_ne (Nat.le_refl w.heap.size))
    have nB0 := Lib.hid (HB0.out.own_ne (Nat.le_refl w.heap.size))
    have nB1 := Lib.hid (HB1.out.own_ne (Nat.le_refl w.heap.size))
    have nR0 := Lib.hid (own_ne0 (lr := digs (x % 4294967296 ^ half * (y % 4294967296 ^ half))) hown0 (by have := hs1.out; omega) nA0.out nB0.out mul_ne1 mul_ne2)
    have A0 := Lib.hid (((HA0.out.below hbel).below hbel2).only0 hon3 nA0.out)
    have A1 := Lib.hid (((HA1.out.below hbel).below hbel2).only0 hon3 nA1.out)
    have B0 := Lib.hid (((HB0.out.below hbel).below hbel2).only0 hon3 nB0.out)
    have B1 := Lib.hid (((HB1.out.below hbel).below hbel2).only0 hon3 nB1.out)
    have R0 := Lib.hid (HR0.out.only0 hon3 (by rw [HLO.out]; exact nR0.out))
    have hbW := Lib.hid (below_only (below_trans hbel hbel2) hon3 (Nat.le_refl _))
    have hz : zerB (y / 4294967296 ^ half) = false := zerB_false (fun e => by
      have h := hL0.out.2.2.2; rw [e, digs_zero] at h; simp at h; omega)
    clear hown0 hbel hbel2 hon3 hs1 hb1 hb2 HA0 HA1 HB0 HB1 HR0
    go_wp2_with fail
    refine (isZero_w B1.out).mono ?_
    rintro en w3' ⟨rfl, rfl⟩
    go_wp2_with fail
    refine (hM w3 _ _ _ _ A1.out B1.out (by have := hL0.out; omega)).mono ?_
    rintro en w4 ⟨⟨r1, rfl, hr1, hown1⟩, hbel4⟩
    have nR1 := Lib.hid (own_ne0 (lr := digs (x / 4294967296 ^ half * (y / 4294967296 ^ half))) hown1 hsz3.out nA1.out nB1.out mul_ne1 mul_ne2)
    have R1 := Lib.hid hr1
    clear hown1 hr1
    go_wp2_with fail
    refine (add_w (A0.out.below hbel4) (A1.out.below hbel4) (by have := hL0.out; omega) (by have := hL0.out; omega)).mono ?_
    rintro en w5 ⟨⟨r2, rfl, hr2, -⟩, hbel5⟩
    have R2 := Lib.hid hr2
    clear hr2
    have hbel35 := below_trans hbel4 hbel5
    go_wp2_with fail
    refine (add_w (B0.out.below hbel35) (B1.out.below hbel35) (by have := hL0.out; omega) (by have := hL0.out; omega)).mono ?_
    rintro en w6 ⟨⟨r3, rfl, hr3, -⟩, hbel6⟩
    have R3 := Lib.hid hr3
    clear hr3
    have hLs : Hid ((digs (x % 4294967296 ^ half + x / 4294967296 ^ half)).length ≤ half + 1 ∧ (digs (y % 4294967296 ^ half + y / 4294967296 ^ half)).length ≤ half + 1) := Lib.hid
      ⟨len_digs_add _ _ _ (by have := hL0.out; omega) (by have := hL0.out; omega), len_digs_add _ _ _ (by have := hL0.out; omega) (by have := hL0.out; omega)⟩
    go_wp2_with fail
    refine (hM w6 _ _ _ _ (R2.out.below hbel6) R3.out (by have := hLs.out; omega)).mono ?_
    rintro en w7 ⟨⟨r4, rfl, hr4, -⟩, hbel7⟩
    have R4 := Lib.hid hr4
    clear hr4
    have hbel37 := below_trans (below_trans hbel35 hbel6) hbel7
    have hK := Lib.hid (kara_mid x y (4294967296 ^ half))
    have R0_7 := R0.out.below hbel37
    rw [HLO.out] at R0_7
    have HR07 := Lib.hid R0_7
    clear R0_7
    go_wp2_with fail
    refine (sub_w R4.out HR07.out hK.out.1).mono ?_
    rintro en w8 ⟨⟨r5, rfl, hr5, -⟩, hbel8⟩
    have R5 := Lib.hid hr5
    clear hr5
    have hbel48 := below_trans (below_trans (below_trans hbel5 hbel6) hbel7) hbel8
    go_wp2_with fail
    refine (sub_w R5.out (R1.out.below hbel48) hK.out.2.1).mono ?_
    rintro en w9 ⟨⟨r6, rfl, hr6, hown6⟩, hbel9⟩
    have hbel39 := below_trans (below_trans hbel37 hbel8) hbel9
    have hb9 := hb3.below hbel39 hsz3.out
    have R6 := Lib.hid hr6
    have nR6 : Hid (r6.ownBlock ≠ some w.heap.size) := Lib.hid (fun e => by have := hown6 _ e; have := (below_trans hbel37 hbel8).size; have := hsz3.out; omega)
    have R1_9 := Lib.hid (R1.out.below (below_trans hbel48 hbel9))
    clear hr6 hown6
    have hlen3 : Hid ((lo ++ List.replicate (l.length + m.length + 1 - lo.length) 0).length = l.length + m.length + 1) := Lib.hid (by have := hLo.out; simp; omega)
    have hws3 : Hid (Ws (lo ++ List.replicate (l.length + m.length + 1 - lo.length) 0)) := Lib.hid (ws_append (by rw [HLO.out]; exact ws_digs _) (ws_replicate _))
    have hv3 : Hid (val (lo ++ List.replicate (l.length + m.length + 1 - lo.length) 0) = x % 4294967296 ^ half * (y % 4294967296 ^ half)) := Lib.hid (by rw [val_append, val_replicate, HLO.out, val_digs]; simp)
    obtain ⟨L3, hL3⟩ : ∃ L3, L3 = lo ++ List.replicate (l.length + m.length + 1 - lo.length) 0 := ⟨_, rfl⟩
    rw [← hL3] at hb9 hlen3 hws3 hv3
    clear hL3 hb3
    go_wp2_with fail
    refine (increase_w hb9 hws3.out (by have := hlen3.out; omega) (by have := hlen3.out; omega) R1_9.out nR1.out).mono ?_
    rintro en w10 ⟨rfl, L10, hb10, hw10, hl10, hon10, hs10, hv10⟩
    have R6_10 := Lib.hid (R6.out.only hon10 nR6.out)
    have HW10 := Lib.hid hw10
    have HL10 := Lib.hid hl10
    have HS10 := Lib.hid hs10
    have HV10 := Lib.hid hv10
    clear hw10 hl10 hs10 hv10
    go_wp2_with fail
    refine (increase_w hb10 HW10.out (by have := hlen3.out; have := HL10.out; omega) (by have := hlen3.out; have := HL10.out; omega) R6_10.out (fun _ => nR6.out)).mono ?_
    rintro en w11 ⟨rfl, L11, hb11, hw11, hl11, hon11, hs11, hv11⟩
    have hroom : x * y < 4294967296 ^ (l.length + m.length + 1) := by
      refine Nat.lt_of_lt_of_le (Nat.mul_lt_mul'' (lt_of_len_digs x) (lt_of_len_digs y)) ?_
      rw [← Nat.pow_add, ← HX.out, ← HY.out]
      exact Nat.pow_le_pow_right (by omega) (by omega)
    have hfin : Hid (val L11 = x * y) := Lib.hid (kara_long hlen3.out hv3.out HL10.out HS10.out HV10.out hl11 hs11 hv11 hroom (by omega))
    have HL11 : Hid (L11.length = l.length + m.length + 1) := Lib.hid (by rw [hl11, HL10.out, hlen3.out])
    have hI := hb11.isW_all hw11 (l.length + m.length + 1) (by have := HL11.out; omega) (by have := HL11.out; omega)
    rw [HL11.out] at hI
    have HI := Lib.hid hI
    clear hI hl11 hs11 hv11 hw11 hroom
    go_wp2_with fail
    refine (trim_d HI.out hfin.out).mono ?_
    rintro en w12 ⟨⟨r, rfl, hr, hown⟩, rfl⟩
    go_wp2_with fail
    go_ret
    refine ⟨⟨r, rfl, hr, fun z hz => ?_⟩, ?_⟩
    · have := hown z hz
      simp [Value.ownBlock] at this
      omega
    · exact below_only (below_only (below_trans' hbW.out hbel39 (Nat.le_of_lt hsz3.out)) hon10 (Nat.le_refl _)) hon11 (Nat.le_refl _)
end Go.Proofs.YtlaphdlocchagaaGreat

/- Products. -/
namespace Go.Proofs.YtlaphdlocchagaaGreat
open Go.RowKit

set_option maxHeartbeats 1000000 in
/-- The product where the first number is not shorter: behind the swap. -/
theorem mul_step {n : Nat} (hM : ∀ k, n = k + 1 → MulC k) (hbig : n ≤ 536870912) : MulC n := by
  intro w u v x y hu hv hlen
  have HX := Lib.hid hu
  have HY := Lib.hid hv
  obtain ⟨l, hl⟩ : ∃ l, l = digs x := ⟨_, rfl⟩
  obtain ⟨m, hm⟩ : ∃ m, m = digs y := ⟨_, rfl⟩
  rw [← hl] at hu
  rw [← hm] at hv
  rw [← hl, ← hm] at hlen
  have HU := Lib.hid hu
  have HV := Lib.hid hv
  have HL := Lib.hid hl
  have HMm := Lib.hid hm
  obtain ⟨a, cap, rfl, h1, h2, h3, h4, h5⟩ := hu
  obtain ⟨b, bcap, rfl, k1, k2, k3, k4, k5⟩ := hv
  have HLEN := Lib.hid hlen
  have HBIG := Lib.hid hbig
  clear h3 h4 h5 k3 k4 k5 hl hm hlen hbig
  by_cases hsw : l.length < m.length
  · by_cases hz : x = 0
    · have hz1 := zerB_true hz
      have HZ := Lib.hid hz
      clear hz
      go_enter Tryz.func104, Tryz.ntmps104
      go_wp2_with fail
      refine (isZero_w HX.out).mono ?_
      rintro en w1 ⟨rfl, rfl⟩
      go_wp2_with fail
      go_ret
      refine ⟨⟨.slice none 0 0, rfl, ?_, by simp [Value.ownBlock]⟩, Below.refl _ _⟩
      rw [HZ.out, Nat.zero_mul, digs_zero]
      exact IsW.nil _
    · have hz1 := zerB_false hz
      have HZ := Lib.hid hz
      clear hz
      by_cases ho : x = 1
      · have ho1 := oneB_true ho
        have HO := Lib.hid ho
        clear ho
        go_enter Tryz.func104, Tryz.ntmps104
        go_wp2_with fail
        refine (isZero_w HX.out).mono ?_
        rintro en w1 ⟨rfl, rfl⟩
        go_wp2_with fail
        refine (isOne_w HX.out).mono ?_
        rintro en w1 ⟨rfl, rfl⟩
        go_wp2_with fail
        go_ret
        refine ⟨⟨_, rfl, ?_, fun b hb => Or.inr (Or.inr hb)⟩, Below.refl _ _⟩
        rw [HO.out, Nat.one_mul]
        exact HY.out
      · have ho1 := oneB_false ho
        clear ho
        by_cases h128 : l.length < 128
        · have hd : decide ((l.length : Int) < 128) = true := by simp; omega
          have H128 := Lib.hid h128
          clear h128
          go_enter Tryz.func104, Tryz.ntmps104
          go_wp2_with fail
          refine (isZero_w HX.out).mono ?_
          rintro en w1 ⟨rfl, rfl⟩
          go_wp2_with fail
          refine (isOne_w HX.out).mono ?_
          rintro en w1 ⟨rfl, rfl⟩
          go_wp2_with fail
          refine (mulPlain_l HV.out HU.out (by have := HLEN.out; have := HBIG.out; omega) (by omega)).mono ?_
          rintro en w1 ⟨⟨r, rfl, hr, hown⟩, hbel⟩
          rw [HL.out, HMm.out, val_digs, val_digs] at hr
          go_wp2_with fail
          go_ret
          exact ⟨⟨r, rfl, by rw [Nat.mul_comm]; exact hr, fun b hb => Or.inl (hown b hb)⟩, hbel⟩
        · obtain ⟨k, rfl⟩ : ∃ k, n = k + 1 := ⟨n - 1, by have := HLEN.out; omega⟩
          have hMk := hM k rfl
          have hd : decide ((l.length : Int) < 128) = false := by simp; omega
          have H128 := Lib.hid h128
          clear hM h128
          go_enter Tryz.func104, Tryz.ntmps104
          go_wp2_with fail
          refine (isZero_w HX.out).mono ?_
          rintro en w1 ⟨rfl, rfl⟩
          go_wp2_with fail
          refine (isOne_w HX.out).mono ?_
          rintro en w1 ⟨rfl, rfl⟩
          go_wp2_with fail
          refine (mulHalves_c hMk HMm.out HL.out HV.out HU.out (by omega) (by have := H128.out; omega) (by have := HLEN.out; omega) (by have := HLEN.out; have := HBIG.out; omega)).mono ?_
          rintro en w1 ⟨⟨r, rfl, hr, hown⟩, hbel⟩
          go_wp2_with fail
          go_ret
          exact ⟨⟨r, rfl, by rw [Nat.mul_comm]; exact hr, fun b hb => Or.inl (hown b hb)⟩, hbel⟩
  · by_cases hz : y = 0
    · have hz1 := zerB_true hz
      have HZ := Lib.hid hz
      clear hz
      go_enter Tryz.func104, Tryz.ntmps104
      go_wp2_with fail
      refine (isZero_w HY.out).mono ?_
      rintro en w1 ⟨rfl, rfl⟩
      go_wp2_with fail
      go_ret
      refine ⟨⟨.slice none 0 0, rfl, ?_, by simp [Value.ownBlock]⟩, Below.refl _ _⟩
      rw [HZ.out, Nat.mul_zero, digs_zero]
      exact IsW.nil _
    · have hz1 := zerB_false hz
      have hy0 : Hid (0 < m.length) := Lib.hid (by
        rw [HMm.out]; exact List.length_pos_iff.2 (fun e => hz (digs_eq_nil.1 e)))
      have HZ := Lib.hid hz
      clear hz
      by_cases ho : y = 1
      · have ho1 := oneB_true ho
        have HO := Lib.hid ho
        clear ho
        go_enter Tryz.func104, Tryz.ntmps104
        go_wp2_with fail
        refine (isZero_w HY.out).mono ?_
        rintro en w1 ⟨rfl, rfl⟩
        go_wp2_with fail
        refine (isOne_w HY.out).mono ?_
        rintro en w1 ⟨rfl, rfl⟩
        go_wp2_with fail
        go_ret
        refine ⟨⟨_, rfl, ?_, fun b hb => Or.inr (Or.inl hb)⟩, Below.refl _ _⟩
        rw [HO.out, Nat.mul_one]
        exact HX.out
      · have ho1 := oneB_false ho
        clear ho
        by_cases h128 : m.length < 128
        · have hd : decide ((m.length : Int) < 128) = true := by simp; omega
          have H128 := Lib.hid h128
          clear h128
          go_enter Tryz.func104, Tryz.ntmps104
          go_wp2_with fail
          refine (isZero_w HY.out).mono ?_
          rintro en w1 ⟨rfl, rfl⟩
          go_wp2_with fail
          refine (isOne_w HY.out).mono ?_
          rintro en w1 ⟨rfl, rfl⟩
          go_wp2_with fail
          refine (mulPlain_l HU.out HV.out (by have := HLEN.out; have := HBIG.out; omega) (by have := hy0.out; omega)).mono ?_
          rintro en w1 ⟨⟨r, rfl, hr, hown⟩, hbel⟩
          rw [HL.out, HMm.out, val_digs, val_digs] at hr
          go_wp2_with fail
          go_ret
          exact ⟨⟨r, rfl, hr, fun b hb => Or.inl (hown b hb)⟩, hbel⟩
        · obtain ⟨k, rfl⟩ : ∃ k, n = k + 1 := ⟨n - 1, by have := HLEN.out; omega⟩
          have hMk := hM k rfl
          have hd : decide ((m.length : Int) < 128) = false := by simp; omega
          have H128 := Lib.hid h128
          clear hM h128
          go_enter Tryz.func104, Tryz.ntmps104
          go_wp2_with fail
          refine (isZero_w HY.out).mono ?_
          rintro en w1 ⟨rfl, rfl⟩
          go_wp2_with fail
          refine (isOne_w HY.out).mono ?_
          rintro en w1 ⟨rfl, rfl⟩
          go_wp2_with fail
          refine (mulHalves_c hMk HL.out HMm.out HU.out HV.out (by omega) (by have := H128.out; omega) (by have := HLEN.out; omega) (by have := HLEN.out; have := HBIG.out; omega)).mono ?_
          rintro en w1 ⟨⟨r, rfl, hr, hown⟩, hbel⟩
          go_wp2_with fail
          go_ret
          exact ⟨⟨r, rfl, hr, fun b hb => Or.inl (hown b hb)⟩, hbel⟩

theorem mul_all (n : Nat) : n ≤ 536870912 → MulC n := by
  induction n with
  | zero => intro h; exact mul_step (fun k hk => by omega) h
  | succ n ih => intro h; exact mul_step (fun k hk => by cases hk; exact ih (by omega)) h

theorem mul_w {w : World} {u v : Value} {x y : Nat} (hu : IsW w u (digs x)) (hv : IsW w v (digs y)) (hlen : (digs x).length + (digs y).length ≤ 536870912) :
    Calls Tryz.prog 104 #[u, v] w fun e w' => (∃ r, e = .returned r ∧ IsW w' r (digs (x * y)) ∧ (∀ b, r.ownBlock = some b → w.heap.size ≤ b ∨ u.ownBlock = some b ∨ v.ownBlock = some b)) ∧ Below w.heap.size w w' :=
  mul_all _ (Nat.le_refl _) w u v x y hu hv hlen
end Go.Proofs.YtlaphdlocchagaaGreat
