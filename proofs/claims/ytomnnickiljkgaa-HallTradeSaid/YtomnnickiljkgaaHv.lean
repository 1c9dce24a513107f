/- Trade of both. -/
import Derived.Test.YtomnnickiljkgaaHu
namespace Go.Proofs.Ytomnnickiljkgaa
open Go.RowKit
attribute [local go_sem ↓] Go.wp_at_zero Go.wp_at_succ

def errT (W : List (List Int)) : Int := errC 8 (W.length : Int) true W
def TrdA (W : List (List Int)) (l : List Int) : Prop := (errT W = 0 → ∃ g ρ, CertT W g ρ ∧ l = tabI W.length (fun i => ((g i : Nat) : Int))) ∧ (errT W ≠ 0 → l = [])
theorem TrdA.bad {W : List (List Int)} (h : errT W ≠ 0) : TrdA W [] := ⟨fun e => absurd e h, fun _ => rfl⟩
theorem errT_ok {W : List (List Int)} (h : errT W = 0) : W.length ≤ 8 ∧ okLists W.length true W = true ∧ AllT W := by
  unfold errT errC at h
  split at h
  · cases h
  · rename_i h0
    split at h
    · rename_i h1
      rw [Int.toNat_natCast] at h1
      refine ⟨by omega, h1, fun i hi => ?_⟩
      have h2 := okLists_nth h1 hi
      unfold okL at h2
      simpa using h2
    · cases h
theorem TrdA.one {W : List (List Int)} {l k : List Int} (h : TrdA W l) (h' : TrdA W k) : l = k := by
  by_cases he : errT W = 0
  · obtain ⟨g, ρ, hc, rfl⟩ := h.1 he
    obtain ⟨g', ρ', hc', rfl⟩ := h'.1 he
    apply tab_congr
    intro i hi
    rw [hc'.one (errT_ok he).2.2 hc hi]
  · rw [h.2 he, h'.2 he]
theorem TrdA.wide {W : List (List Int)} {l : List Int} (h : TrdA W l) : ∀ z ∈ l, -9223372036854775808 ≤ z ∧ z ≤ 9223372036854775807 := fun z hz => by
  by_cases he : errT W = 0
  · obtain ⟨g, ρ, hc, rfl⟩ := h.1 he
    have := cert_lists hc z hz
    have := (errT_ok he).1
    omega
  · rw [h.2 he] at hz; cases hz
set_option maxRecDepth 8000 in
set_option maxHeartbeats 4000000 in
theorem trade_w {w : World} {n ca : Nat} {a : Option Addr} {W : List (List Int)} (h : RowsF w a W) (hs : SmallL W) (hn : n = W.length) :
    Calls Try.prog 21 #[.slice a n ca] w fun e w' => (∃ va vc l, e = .returned (.tuple #[.slice va l.length vc, .int .i64 (errT W)]) ∧ IntsF w' va l ∧ TrdA W l) ∧ Below w.heap.size w w' := by
  have K1 := Lib.hid (checkT_w (k := 8) (c := ca) (z := (n : Int)) h hs hn)
  obtain ⟨x, hx⟩ : ∃ x, x = errT W := ⟨_, rfl⟩
  have HX := Lib.hid hx
  have HN := Lib.hid hn
  have HW := Lib.hid h
  have HS := Lib.hid hs
  have hx9 : errC 8 (n : Int) true W = x := by rw [hx, hn]; rfl
  rw [hx9] at K1
  rw [← hx]
  clear h hs hn hx hx9
  go_enter Try.func21, Try.ntmps21
  go_wp2_with fail
  refine K1.out.mono ?_
  rintro en2 w2 ⟨rfl, hb2⟩
  have HZ2 := Lib.hid hb2
  clear hb2 K1
  by_cases hx0 : x = 0
  · have hok := errT_ok (W := W) (by rw [← HX.out]; exact hx0)
    have hn8 : n ≤ 8 := by have := HN.out; omega
    have KT := Lib.hid (traded_w (ca := ca) (HW.out.below HZ2.out) HS.out HN.out hn8 hok.2.2)
    have HOK : Hid (AllT W) := Lib.hid hok.2.2
    clear hok
    subst hx0
    go_wp2_with fail
    refine KT.out.mono ?_
    rintro en3 w3 ⟨⟨B, g, ρ, rfl, hB, hT, hC⟩, hb3⟩
    have HT := Lib.hid hT
    have HC := Lib.hid hC
    have HZ3 := Lib.hid (below_trans HZ2.out hb3)
    clear hB hT hC hb3 KT
    go_wp2_with fail
    go_ret2
    refine ⟨⟨some ⟨B, 0, none⟩, n, tabI n (fun i => ((g i : Nat) : Int)), by rw [tab_len]; rfl, HT.out.ints (fun z hz => ?_), fun _ => ⟨g, ρ, HC.out, by rw [← HN.out]⟩, fun e => absurd HX.out.symm e⟩, HZ3.out⟩
    have := cert_lists HC.out z (by rw [← HN.out]; exact hz)
    have := HN.out
    omega
  · have u1 : (x == 0) = false := by simpa using hx0
    have u2 : (x != 0) = true := by simpa using hx0
    have HX0 := Lib.hid hx0
    go_wp2_with fail
    go_ret2
    exact ⟨⟨none, 0, [], rfl, IntsF.nil _ _, TrdA.bad (by rw [← HX.out]; exact HX0.out)⟩, HZ2.out⟩

theorem left_mid {n k : Nat} {g g' : Nat → Int} (hk : g' k ≠ -1) : (tabB n (fun x => if x < k then decide (g' x = -1) else decide (g x = -1))).set k false = tabB n (fun x => if x < k + 1 then decide (g' x = -1) else decide (g x = -1)) := by
  rw [tabB_set]
  apply tabB_congr
  intro i _
  by_cases e : i = k
  · subst e
    rw [if_pos rfl, if_pos (by omega)]
    simp [hk]
  · rw [if_neg e]
    by_cases h : i < k
    · rw [if_pos h, if_pos (by omega)]
    · rw [if_neg h, if_neg (by omega)]
theorem left_same {n k : Nat} {g g' : Nat → Int} (hk : g' k = -1) (hg : g k = -1) : tabB n (fun x => if x < k then decide (g' x = -1) else decide (g x = -1)) = tabB n (fun x => if x < k + 1 then decide (g' x = -1) else decide (g x = -1)) := by
  apply tabB_congr
  intro i _
  by_cases e : i = k
  · subst e
    rw [if_neg (by omega), if_pos (by omega), hk, hg]
  · by_cases h : i < k
    · rw [if_pos h, if_pos (by omega)]
    · rw [if_neg h, if_neg (by omega)]
theorem putG_none {W : List (List Int)} {g : Nat → Int} {b j x : Nat} (h : putG W g b j x = -1) : g x = -1 := by
  unfold putG at h
  split at h
  · omega
  · exact h

set_option maxRecDepth 8000 in
set_option maxHeartbeats 16000000 in
theorem rtrade_w {w : World} {n ca : Nat} {a : Option Addr} {W : List (List Int)} (h : RowsF w a W) (hs : SmallL W) (hn : n = W.length) :
    Calls Try.prog 19 #[.slice a n ca] w fun e w' => (∃ va vc l, e = .returned (.tuple #[.slice va l.length vc, .int .i64 (errT W)]) ∧ IntsF w' va l ∧ TrdA W l) ∧ Below w.heap.size w w' := by
  have K1 := Lib.hid (allT_w (n := n) (c := ca) h hs hn)
  obtain ⟨x, hx⟩ : ∃ x, x = errT W := ⟨_, rfl⟩
  obtain ⟨ok, hok⟩ : ∃ x, x = okLists n true W := ⟨_, rfl⟩
  have HX := Lib.hid hx
  have HOK := Lib.hid hok
  have HN := Lib.hid hn
  have HW := Lib.hid h
  have HS := Lib.hid hs
  have hn12 : n ≤ 12 := by rw [hn]; exact hs.1
  have HE : Hid (x = if n > 8 then 1 else if ok = true then 0 else 70) := Lib.hid (by
    rw [hx, hok]; unfold errT errC
    rw [← hn, Int.toNat_natCast]
    by_cases g : n > 8
    · rw [if_pos (Or.inl g), if_pos g]
    · rw [if_neg (by omega), if_neg g])
  rw [← hok] at K1
  rw [← hx]
  clear h hs hn hx hok
  by_cases hn8' : n > 8
  · have t1 : decide ((8 : Int) < (n : Int)) = true := by simp; omega
    have t2 : decide ((n : Int) > 8) = true := by simp; omega
    have HE9 : Hid (x = 1) := Lib.hid (by rw [HE.out, if_pos hn8'])
    go_enter Try.func19, Try.ntmps19
    go_wp2_with fail
    go_ret2
    exact ⟨⟨none, 0, [], by rw [HE9.out]; rfl, IntsF.nil _ _, TrdA.bad (by rw [← HX.out, HE9.out]; decide)⟩, Below.refl _ _⟩
  have t1 : decide ((8 : Int) < (n : Int)) = false := by simp; omega
  have t2 : decide ((n : Int) > 8) = false := by simp; omega
  have hn8 : n ≤ 8 := by omega
  clear hn8'
  go_enter Try.func19, Try.ntmps19
  go_wp2_with fail
  refine K1.out.mono ?_
  rintro en2 w2 ⟨rfl, rfl⟩
  cases ok with
  | false =>
    have HE9 : Hid (x = 70) := Lib.hid (by rw [HE.out, if_neg (by omega)]; rfl)
    go_wp2_with fail
    go_ret2
    exact ⟨⟨none, 0, [], by rw [HE9.out]; rfl, IntsF.nil _ _, TrdA.bad (by rw [← HX.out, HE9.out]; decide)⟩, Below.refl _ _⟩
  | true =>
  have HE9 : Hid (x = 0) := Lib.hid (by rw [HE.out, if_neg (by omega)]; rfl)
  have HA : Hid (AllT W) := Lib.hid (errT_ok (by rw [← HX.out]; exact HE9.out)).2.2
  have HX0 : Hid (errT W = 0) := Lib.hid (by rw [← HX.out]; exact HE9.out)
  clear K1 HE HX HOK
  go_wp2_with (at_make; refine wpList_make_bools rfl _ _ _ rfl Try.underlying59 info_bool9 n rfl rfl (by omega) ?_; intro w2 hr2 hb2 hs2; refine halt ?_)
  refine go_on ?_
  obtain ⟨LB, hLB⟩ : ∃ G, G = w.heap.size := ⟨_, rfl⟩
  rw [← hLB] at hr2 ⊢
  have HLB : Hid (w.heap.size ≤ LB) := Lib.hid (by omega)
  have HT2 : Hid (BlkT w2 LB 4 (tabB n (fun y => decide (y < 0)))) := Lib.hid (by
    have : tabB n (fun y => decide (y < 0)) = List.replicate n false := by rw [← tabB_rep]; apply tabB_congr; intro i _; simp
    rw [this]; exact hr2)
  have HZ2 : Hid (Below w.heap.size w w2) := Lib.hid hb2
  clear hr2 hb2 hs2 hLB
  go_wp2_with fail
  go_loopw [6] (fun iv wr => ∃ i : Nat, i ≤ n ∧ iv = .int .i64 i ∧ Hid (BlkT wr LB 4 (tabB n (fun y => decide (y < i)))) ∧ Hid (Below w.heap.size w wr)) (fun iv _ => n - (intOf iv).toNat)
  case atStart => exact ⟨0, Nat.zero_le _, rfl, HT2, HZ2⟩
  case round =>
    obtain ⟨i, hi, rfl, hT, hZ⟩ := hrel
    obtain ⟨wo, rfl⟩ : ∃ wo : World, wo = wr := ⟨_, rfl⟩
    clear HT2 HZ2
    by_cases hik : i < n
    · have t0 : decide ((i : Int) < (n : Int)) = true := by simp; omega
      have e1 : wo.cell? ⟨LB, i, none⟩ = some (.bool (decide (i < i))) := hT.out.cell (tabB_get (f := fun y => decide (y < i)) hik)
      have z1 := hT.out.frozen i
      have HT9 : Hid (BlkT (wo.setCell ⟨LB, i, none⟩ (.bool true)) LB 4 (tabB n (fun y => decide (y < i + 1)))) := Lib.hid (by
        have h9 := hT.out.setCell i true
        rw [tabB_set] at h9
        have : tabB n (fun y => decide (y < i + 1)) = tabB n (fun j => if j = i then true else decide (j < i)) := by
          apply tabB_congr
          intro j _
          by_cases e : j = i
          · subst e; simp
          · rw [if_neg e]
            have : (j < i + 1) ↔ j < i := by omega
            simp [this]
        rw [this]; exact h9)
      have HZ9 : Hid (Below w.heap.size w (wo.setCell ⟨LB, i, none⟩ (.bool true))) := Lib.hid (below_only hZ.out ((Only.refl LB wo).setCell i _) HLB.out)
      obtain ⟨e0, he0⟩ : ∃ e, e = decide (i < i) := ⟨_, rfl⟩
      rw [← he0] at e1
      clear he0
      go_wp2_with fail
      go_roundw
      case rel => exact ⟨i + 1, by omega, by go_num, HT9, HZ9⟩
      case measure => simp [intOf]; omega
    · have t0 : decide ((i : Int) < (n : Int)) = false := by simp; omega
      have hTL : Hid (BlkT wo LB 4 (tabB n (fun _ => decide ((-1 : Int) = -1)))) := Lib.hid (by
        have h9 := hT.out
        have : tabB n (fun _ => decide ((-1 : Int) = -1)) = tabB n (fun y => decide (y < i)) := by
          apply tabB_congr
          intro j hj
          simp; omega
        rw [this]; exact h9)
      have KN := Lib.hid (filled_w (w := wo) (n := n) (x := -1) (by omega))
      clear hT
      go_wp2_with fail
      refine KN.out.mono ?_
      rintro en3 w3 ⟨G, rfl, hG, hT3, hb3⟩
      have HGL : Hid (w.heap.size ≤ G) := Lib.hid (by have := hZ.out.size; omega)
      have HLG : Hid (LB < G) := Lib.hid (by have := hTL.out.lt; omega)
      have HZ3 := Lib.hid (below_trans hZ.out hb3)
      have HL3 := Lib.hid (hTL.out.below hb3)
      have HT3 : Hid (BlkI w3 G (tabI n (fun _ => -1))) := Lib.hid (by rw [tab_rep]; exact hT3)
      clear hG hT3 hb3 hZ hTL KN
      go_wp2_with fail
      go_loopw [8] (fun iv wr => ∃ (i : Nat) (g : Nat → Int) (ρ : Nat → Nat) (t : Nat), i ≤ n ∧ iv = .int .i64 i ∧ Hid (TInv W g ρ t) ∧ Hid (∀ q, q < i → g q ≠ -1) ∧ Hid (BlkI wr G (tabI n g)) ∧ Hid (BlkT wr LB 4 (tabB n (fun x => decide (g x = -1)))) ∧ Hid (Below w.heap.size w wr)) (fun iv _ => n - (intOf iv).toNat)
      case atStart => exact ⟨0, _, _, _, Nat.zero_le _, rfl, Lib.hid (TInv.start W), Lib.hid (fun q hq => absurd hq (Nat.not_lt_zero _)), HT3, HL3, HZ3⟩
      case round =>
        obtain ⟨i, g, ρ, t, hi, rfl, hI, hd, hT, hL, hZ⟩ := hrel
        obtain ⟨wo, rfl⟩ : ∃ wo : World, wo = wr := ⟨_, rfl⟩
        clear HT3 HL3 HZ3
        by_cases hin : i < n
        rotate_left
        · have t0 : decide ((i : Int) < (n : Int)) = false := by simp; omega
          have HAL : Hid (∀ q, q < W.length → g q ≠ -1) := Lib.hid (fun q hq => hd.out q (by have := HN.out; omega))
          have hTE : tabI n (fun i => (((g i).toNat : Nat) : Int)) = tabI n g := by
            apply tab_congr
            intro i hi
            have := HN.out
            have h1 := HAL.out i (by omega)
            rcases hI.out.range (i := i) (by omega) with e9 | e9 <;> omega
          have HTE := Lib.hid hTE
          clear hTE
          go_wp2_with fail
          go_ret2
          refine ⟨⟨some ⟨G, 0, none⟩, n, tabI n g, by rw [tab_len, HE9.out]; rfl, hT.out.ints (fun z hz => ?_), fun _ => ⟨_, ρ, hI.out.cert HAL.out, by rw [← HN.out, HTE.out]⟩, fun e => absurd HX0.out e⟩, hZ.out⟩
          obtain ⟨i, hi, e⟩ := mem_tab hz
          have := HN.out
          rcases hI.out.range (i := i) (by omega) with e9 | e9 <;> omega
        have t0 : decide ((i : Int) < (n : Int)) = true := by simp; omega
        go_wp2_with fail
        go_loopg [9] (openT n g) (fun k _ wr => ∃ (g : Nat → Int) (ρ : Nat → Nat) (t : Nat), Hid (TInv W g ρ t) ∧ Hid (k = openT n g) ∧ Hid (∀ q, q < i → g q ≠ -1) ∧ Hid (BlkI wr G (tabI n g)) ∧ Hid (BlkT wr LB 4 (tabB n (fun x => decide (g x = -1)))) ∧ Hid (Below w.heap.size w wr))
        case atStart => exact ⟨g, ρ, t, hI, Lib.hid rfl, hd, hT, hL, hZ⟩
        case round =>
          obtain ⟨g, ρ, t, hI, hgk, hd, hT, hL, hZ⟩ := hrel
          obtain ⟨wo, rfl⟩ : ∃ wo : World, wo = wr := ⟨_, rfl⟩
          obtain ⟨lb, hlb⟩ : ∃ lb, lb = decide (g i = -1) := ⟨_, rfl⟩
          have HLBV := Lib.hid hlb
          have e1 : wo.cell? ⟨LB, i, none⟩ = some (.bool lb) := by rw [hlb]; exact hL.out.cell (tabB_get (f := fun x => decide (g x = -1)) hin)
          clear hlb
          cases lb with
          | false =>
            have HD9 : Hid (∀ q, q < i + 1 → g q ≠ -1) := Lib.hid (fun q hq => by
              by_cases hqi : q = i
              · subst hqi
                have := HLBV.out
                simpa using this
              · exact hd.out q (by omega))
            go_wp2_with fail
            go_roundw
            case rel => exact ⟨i + 1, g, ρ, t, by omega, by go_num, hI, HD9, hT, hL, hZ⟩
            case measure => simp [intOf]; omega
          | true =>
            have HBN : Hid (i < W.length ∧ g i = -1) := Lib.hid ⟨by have := HN.out; omega, by have := HLBV.out; simpa using this⟩
            obtain ⟨p, hp⟩ : ∃ p, p = ptN W g := ⟨_, rfl⟩
            have HIT : Hid (∀ k, itN p k i < n ∧ ptI W g (itN p k i) = (itN p (k + 1) i : Int)) := Lib.hid (fun k => by
              rw [hp]
              have h1 := it_left HA.out HBN.out.1 HBN.out.2 k
              have h2 := pt_spec HA.out HBN.out.1 HBN.out.2 h1.1
              exact ⟨by have := HN.out; omega, h2.1⟩)
            have KB : Hid (∀ (w' : World) (x : Nat), x < n → Below w.heap.size w w' → BlkT w' LB 4 (tabB n (fun x => decide (g x = -1))) → ∃ B off a2 c2, a = some ⟨B, off, none⟩ ∧ w'.cell? ⟨B, off + x, none⟩ = some (.slice a2 (nthL W x).length c2) ∧ Calls Try.prog 38 #[.slice a2 (nthL W x).length c2, .slice (some ⟨LB, 0, none⟩) n n] w' fun e w'' => e = .returned (.int .i64 (ptI W g x)) ∧ w' = w'') := Lib.hid (fun w' x hx hb hl => by
              obtain ⟨B2, off2, a2, c2, hb9, hI2, -, -, hc2⟩ := HW.out.at (i := x) (by have := HN.out; omega)
              refine ⟨B2, off2, a2, c2, hb9, hc2 w' hb, ?_⟩
              have hl2 := HS.out.nth x
              exact best_w (lf := fun x => decide (g x = -1)) (hI2.below hb) rfl (by omega) hl (fun z hz => by
                have := (listed_iff.1 (HA.out x (by have := HN.out; omega)).2).2 z hz
                have := HN.out
                omega))
            go_wp2_with fail
            go_loopw [9, 10] (fun av iv wr => ∃ k : Nat, k ≤ n ∧ iv = .int .i64 k ∧ av = .int .i64 ((itN p k i : Nat) : Int) ∧ wr = wo) (fun _ iv _ => n - (intOf iv).toNat)
            case atStart => exact ⟨0, Nat.zero_le _, rfl, rfl, rfl⟩
            case round =>
              obtain ⟨k, hk, rfl, rfl, rfl⟩ := hrel
              by_cases hkn : k < n
              · have t3 : decide ((k : Int) < (n : Int)) = true := by simp; omega
                obtain ⟨hx1, hx2⟩ := HIT.out k
                obtain ⟨x, hx⟩ : ∃ x, x = itN p k i := ⟨_, rfl⟩
                obtain ⟨y, hy⟩ : ∃ y, y = itN p (k + 1) i := ⟨_, rfl⟩
                have HY := Lib.hid hy
                rw [← hx] at hx1 hx2 ⊢
                rw [← hy] at hx2
                obtain ⟨B2, off2, a2, c2, hb9, e2, KX⟩ := KB.out wr x hx1 hZ.out hL.out
                have KX := Lib.hid KX
                rw [hx2] at KX
                subst hb9
                obtain ⟨l2, hl2'⟩ : ∃ x', x' = (nthL W x).length := ⟨_, rfl⟩
                rw [← hl2'] at KX e2
                clear hx hx2 hy hl2' e1
                go_wp2_with fail
                refine KX.out.mono ?_
                rintro en4 w4 ⟨rfl, rfl⟩
                clear KX e2
                go_wp2_with fail
                go_roundw
                case rel => exact ⟨k + 1, by omega, by go_num, by rw [← HY.out], by first | rfl | trivial⟩
                case measure => simp [intOf]; omega
              · have t3 : decide ((k : Int) < (n : Int)) = false := by simp; omega
                have hkk : k = n := by omega
                subst hkk
                obtain ⟨b2, hb2⟩ : ∃ b2, b2 = itN p k i := ⟨_, rfl⟩
                rw [← hb2]
                have HCY : Hid (∃ m, 0 < m ∧ itN p m b2 = b2) := Lib.hid (by
                  rw [hb2]
                  exact in_cycle (n := k) (by have := HBN.out.1; have := HN.out; omega) (fun x hx => by
                    rw [hp]
                    have h2 := pt_spec HA.out HBN.out.1 HBN.out.2 (i := x) (by have := HN.out; omega)
                    have := HN.out
                    omega))
                have HB2 : Hid (b2 < W.length ∧ g b2 = -1) := Lib.hid (by rw [hb2, hp]; exact it_left HA.out HBN.out.1 HBN.out.2 k)
                have HPP := Lib.hid hp
                clear HIT hb2 HBN hp hkn e1
                have HI2 : Hid (∀ j, itN p j b2 < k ∧ ptI W g (itN p j b2) = (itN p (j + 1) b2 : Int)) := Lib.hid (fun j => by
                  rw [HPP.out]
                  have h1 := it_left HA.out HB2.out.1 HB2.out.2 j
                  have h2 := pt_spec HA.out HB2.out.1 HB2.out.2 h1.1
                  exact ⟨by have := HN.out; omega, h2.1⟩)
                go_wp2_with fail
                go_loopg [9] (k + 1) (fun c av wr => ∃ j : Nat, av = .int .i64 ((itN p j b2 : Nat) : Int) ∧ Hid (c + j = k + 1) ∧ Hid ((orbL p b2 j).Nodup) ∧ Hid (BlkI wr G (tabI k (putG W g b2 j))) ∧ Hid (BlkT wr LB 4 (tabB k (fun x => decide (g x = -1)))) ∧ Hid (Below w.heap.size w wr))
                case atStart => exact ⟨0, rfl, Lib.hid rfl, Lib.hid (by simp [orbL]), Lib.hid (by rw [putG_zero]; exact hT.out), hL, hZ⟩
                case round =>
                  obtain ⟨j, rfl, hcj, hnd, hT, hL, hZ⟩ := hrel
                  obtain ⟨wp, rfl⟩ : ∃ wp : World, wp = wr := ⟨_, rfl⟩
                  obtain ⟨hx1, hx2⟩ := HI2.out j
                  obtain ⟨x, hx⟩ : ∃ x, x = itN p j b2 := ⟨_, rfl⟩
                  obtain ⟨y, hy⟩ : ∃ y, y = itN p (j + 1) b2 := ⟨_, rfl⟩
                  have HY := Lib.hid hy
                  have HXX := Lib.hid hx
                  rw [← hx] at hx1 hx2 ⊢
                  rw [← hy] at hx2
                  obtain ⟨v, hv⟩ : ∃ v, v = putG W g b2 j x := ⟨_, rfl⟩
                  have e1 : wp.cell? ⟨G, x, none⟩ = some (.int .i64 v) := by rw [hv]; exact hT.out.cell (tab_get hx1)
                  have hpv : v = -1 ↔ x ∉ orbL p b2 j := by rw [hv, hx, HPP.out]; exact putG_at HA.out HB2.out.1 HB2.out.2 j
                  have HPV := Lib.hid hpv
                  have HX2 := Lib.hid hx2
                  clear hv hx hy hx2 hpv
                  by_cases hv1 : v = -1
                  · subst hv1
                    obtain ⟨B2, off2, a2, c2, hb9, e2, KX⟩ := KB.out wp x hx1 hZ.out hL.out
                    have KX := Lib.hid KX
                    rw [HX2.out] at KX
                    subst hb9
                    obtain ⟨l2, hl2'⟩ : ∃ x', x' = (nthL W x).length := ⟨_, rfl⟩
                    rw [← hl2'] at KX e2
                    clear hl2'
                    go_wp2_with fail
                    refine KX.out.mono ?_
                    rintro en4 w4 ⟨rfl, rfl⟩
                    clear KX e2
                    go_wp2_with ((with_reducible refine at_store ?_); refine wpList_store_int rfl (.tmp 66) (.tmp 65) rfl G x rfl (y : Int) rfl _ hT.out (by rw [tab_len]; exact hx1) ?_; intro wq hq onq; refine halt ?_)
                    refine go_on ?_
                    have HND9 : Hid ((orbL p b2 (j + 1)).Nodup) := Lib.hid (orb_more hnd.out (by rw [← HXX.out]; exact HPV.out.1 (by first | rfl | trivial)))
                    have HTq : Hid (BlkI wq G (tabI k (putG W g b2 (j + 1)))) := Lib.hid (by
                      have h9 := hq
                      rw [HXX.out, HY.out] at h9
                      rw [HPP.out] at h9
                      rw [← putG_set]
                      exact h9)
                    have f1 : wq.cell? ⟨G, x, none⟩ = some (.int .i64 (y : Nat)) := hq.cell (by rw [List.getElem?_set_self (by rw [tab_len]; exact hx1)])
                    have HLq := Lib.hid (hL.out.other onq (by have := HLG.out; omega))
                    have HZq := Lib.hid (below_only hZ.out onq HGL.out)
                    have HJL : Hid (j + 1 ≤ k) := Lib.hid (by
                      have := orb_len HA.out HB2.out.1 HB2.out.2 (j := j + 1) (by rw [← HPP.out]; exact HND9.out)
                      have := HN.out
                      omega)
                    clear hq onq hT hL hZ e1
                    go_wp2_with fail
                    go_roundg (k - j)
                    case measure => have := HJL.out; have := hcj.out; omega
                    case rel => exact ⟨j + 1, by rw [← HY.out], Lib.hid (by have := HJL.out; omega), HND9, HTq, HLq, HZq⟩
                  · have t4 : (v == -1) = false := by simpa using hv1
                    have hmem : itN (ptN W g) j b2 ∈ orbL (ptN W g) b2 j := by
                      rw [← HPP.out, ← HXX.out]
                      exact Classical.byContradiction (fun e => hv1 (HPV.out.2 e))
                    have hnd' : (orbL (ptN W g) b2 j).Nodup := by rw [← HPP.out]; exact hnd.out
                    have hcy' : ∃ m, 0 < m ∧ itN (ptN W g) m b2 = b2 := by rw [← HPP.out]; exact HCY.out
                    have HI9 := Lib.hid (hI.out.cycle HA.out HB2.out.1 HB2.out.2 hcy' hnd' hmem)
                    have HOL : Hid (openT k (putG W g b2 j) < openT k g) := Lib.hid (by
                      have h9 := open_less (W := W) (g := g) HB2.out.1 HB2.out.2 (orb_closed hcy' hnd' hmem).2
                      rw [← HN.out] at h9
                      exact h9)
                    have HL0 : Hid (BlkT wp LB 4 (tabB k (fun x => if x < 0 then decide (putG W g b2 j x = -1) else decide (g x = -1)))) := hL
                    clear hmem hnd' hcy' hL
                    go_wp2_with fail
                    go_loopw [11] (fun iv wr => ∃ m : Nat, m ≤ k ∧ iv = .int .i64 m ∧ Hid (BlkI wr G (tabI k (putG W g b2 j))) ∧ Hid (BlkT wr LB 4 (tabB k (fun x => if x < m then decide (putG W g b2 j x = -1) else decide (g x = -1)))) ∧ Hid (Below w.heap.size w wr)) (fun iv _ => k - (intOf iv).toNat)
                    case atStart => exact ⟨0, Nat.zero_le _, rfl, hT, HL0, hZ⟩
                    case round =>
                      obtain ⟨m, hm, rfl, hT, hL, hZ⟩ := hrel
                      obtain ⟨wu, rfl⟩ : ∃ wu : World, wu = wr := ⟨_, rfl⟩
                      clear HL0
                      by_cases hmk : m < k
                      · have t5 : decide ((m : Int) < (k : Int)) = true := by simp; omega
                        obtain ⟨u, hu⟩ : ∃ u, u = putG W g b2 j m := ⟨_, rfl⟩
                        have HU := Lib.hid hu
                        have e2 : wu.cell? ⟨G, m, none⟩ = some (.int .i64 u) := by rw [hu]; exact hT.out.cell (tab_get hmk)
                        have hur := HI9.out.range (i := m) (by have := HN.out; omega)
                        rw [← hu] at hur
                        clear hu
                        by_cases hu1 : u = -1
                        · subst hu1
                          have t6 : decide ((-1 : Int) ≥ 0) = false := by rfl
                          have HL9 : Hid (BlkT wu LB 4 (tabB k (fun x => if x < m + 1 then decide (putG W g b2 j x = -1) else decide (g x = -1)))) := Lib.hid (by rw [← left_same HU.out.symm (putG_none HU.out.symm)]; exact hL.out)
                          clear hur
                          go_wp2_with fail
                          go_roundw
                          case rel => exact ⟨m + 1, by omega, by go_num, hT, HL9, hZ⟩
                          case measure => simp [intOf]; omega
                        · obtain ⟨u', rfl⟩ : ∃ u' : Nat, u = (u' : Int) := ⟨u.toNat, by omega⟩
                          have t6 : decide ((u' : Int) ≥ 0) = true := by simp
                          clear hur hu1
                          go_wp2_with ((with_reducible refine at_store ?_); refine wpList_store_bool rfl (.tmp 83) (.const (.bool false)) rfl LB m rfl false rfl _ _ hL.out (by rw [tabB_len]; exact hmk) ?_; intro wq hq onq; refine halt ?_)
                          refine go_on ?_
                          have HLq : Hid (BlkT wq LB 4 (tabB k (fun x => if x < m + 1 then decide (putG W g b2 j x = -1) else decide (g x = -1)))) := Lib.hid (by rw [← left_mid (by rw [← HU.out]; omega)]; exact hq)
                          have HTq := Lib.hid (hT.out.other onq (by have := HLG.out; omega))
                          have HZq := Lib.hid (below_only hZ.out onq HLB.out)
                          clear hq onq hT hL hZ e2
                          go_wp2_with fail
                          go_roundw
                          case rel => exact ⟨m + 1, by omega, by go_num, HTq, HLq, HZq⟩
                          case measure => simp [intOf]; omega
                      · have t5 : decide ((m : Int) < (k : Int)) = false := by simp; omega
                        have HL9 : Hid (BlkT wu LB 4 (tabB k (fun x => decide (putG W g b2 j x = -1)))) := Lib.hid (by
                          have h9 := hL.out
                          have h8 : tabB k (fun x => if x < m then decide (putG W g b2 j x = -1) else decide (g x = -1)) = tabB k (fun x => decide (putG W g b2 j x = -1)) := by
                            apply tabB_congr
                            intro q hq
                            rw [if_pos (by omega)]
                          rw [h8] at h9
                          exact h9)
                        have HD9 : Hid (∀ q, q < i → putG W g b2 j q ≠ -1) := Lib.hid (fun q hq e => hd.out q hq (putG_none e))
                        go_wp2_with fail
                        go_roundg (openT k (putG W g b2 j))
                        case measure => have := HOL.out; have := hgk.out; omega
                        case rel => exact ⟨_, _, _, HI9, Lib.hid rfl, HD9, hT, HL9, hZ⟩
end Go.Proofs.Ytomnnickiljkgaa
