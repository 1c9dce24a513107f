/- Trade of the package: cycle by cycle. -/
import Derived.Test.YtomnnickiljkgaaHt
namespace Go.Proofs.Ytomnnickiljkgaa
open Go.RowKit
attribute [local go_sem ↓] Go.wp_at_zero Go.wp_at_succ

theorem tab_contains {n : Nat} {g : Nat → Int} {z : Int} : (tabI n g).contains z = true ↔ ∃ i, i < n ∧ g i = z := by
  rw [List.contains_iff_mem]
  exact ⟨mem_tab, fun ⟨i, hi, e⟩ => List.mem_of_getElem? (by rw [tab_get hi, e])⟩
theorem tab_pos {n : Nat} {g : Nat → Int} {z : Int} (h : (tabI n g).contains z = true) : ∃ b : Nat, posQ (tabI n g) z = (b : Int) ∧ b < n ∧ g b = z := by
  have hm := List.contains_iff_mem.1 h
  refine ⟨(tabI n g).idxOf z, by unfold posQ; rw [if_pos hm], ?_, ?_⟩
  · have := List.idxOf_lt_length_of_mem hm
    rwa [tab_len] at this
  · have h1 := idxOf_mem hm
    have h2 := List.idxOf_lt_length_of_mem hm
    rw [tab_len] at h2
    rw [tab_get h2] at h1
    exact Option.some.inj h1
theorem cert_lists {W : List (List Int)} {g : Nat → Nat} {ρ : Nat → Nat} (h : CertT W g ρ) : ∀ z ∈ tabI W.length (fun i => (g i : Int)), 0 ≤ z ∧ z < W.length := fun z hz => by
  obtain ⟨i, hi, e⟩ := mem_tab hz
  have := h.perm.1 i hi
  omega

set_option maxRecDepth 8000 in
set_option maxHeartbeats 8000000 in
theorem traded_w {w : World} {n ca : Nat} {a : Option Addr} {W : List (List Int)} (h : RowsF w a W) (hs : SmallL W) (hn : n = W.length) (hn8 : n ≤ 8) (hW : AllT W) :
    Calls Try.prog 44 #[.slice a n ca] w fun e w' => (∃ B g ρ, e = .returned (.slice (some ⟨B, 0, none⟩) n n) ∧ w.heap.size ≤ B ∧ BlkI w' B (tabI n (fun i => ((g i : Nat) : Int))) ∧ CertT W g ρ) ∧ Below w.heap.size w w' := by
  have HW := Lib.hid h
  have HS := Lib.hid hs
  have HN := Lib.hid hn
  have HA := Lib.hid hW
  have KN := Lib.hid (nothing_w (w := w) (n := n) hn8)
  clear h hs hn hW
  go_enter Try.func44, Try.ntmps44
  go_wp2_with fail
  refine KN.out.mono ?_
  rintro en1 w1 ⟨G, rfl, hG, hT1, hb1⟩
  have HGL := Lib.hid hG
  have HZ1 := Lib.hid hb1
  have HT1 : Hid (BlkI w1 G (tabI n (fun _ => -1))) := Lib.hid (by rw [tab_rep]; exact hT1)
  clear hG hT1 hb1 KN
  go_wp2_with fail
  go_loopg [5] (openT n (fun _ => -1)) (fun k _ wr => ∃ (g : Nat → Int) (ρ : Nat → Nat) (t : Nat), Hid (TInv W g ρ t) ∧ Hid (k = openT n g) ∧ Hid (BlkI wr G (tabI n g)) ∧ Hid (Below w.heap.size w wr))
  case atStart => exact ⟨_, _, _, Lib.hid (TInv.start W), Lib.hid rfl, HT1, HZ1⟩
  case round =>
    obtain ⟨g, ρ, t, hI, hgk, hT, hZ⟩ := hrel
    obtain ⟨wo, rfl⟩ : ∃ wo : World, wo = wr := ⟨_, rfl⟩
    clear HT1 HZ1
    have HTW : Hid (∀ z ∈ tabI n g, -9223372036854775808 ≤ z ∧ z ≤ 9223372036854775807) := Lib.hid (fun z hz => by
      obtain ⟨i, hi, e⟩ := mem_tab hz
      have := HN.out
      rcases hI.out.range (i := i) (by omega) with e9 | e9 <;> omega)
    have KC := Lib.hid (contains_w (c := n) (v := -1) (hT.out.ints HTW.out) (tab_len n g).symm (by omega))
    obtain ⟨cb, hcb⟩ : ∃ x, x = (tabI n g).contains (-1) := ⟨_, rfl⟩
    have HCB := Lib.hid hcb
    rw [← hcb] at KC
    clear hcb
    go_wp2_with fail
    refine KC.out.mono ?_
    rintro en2 w2 ⟨rfl, rfl⟩
    cases cb with
    | false =>
      have HAL : Hid (∀ i, i < W.length → g i ≠ -1) := Lib.hid (fun i hi e => by
        have h9 := HCB.out.trans (tab_contains.2 ⟨i, by have := HN.out; omega, e⟩)
        cases h9)
      have HTF : Hid (BlkI wo G (tabI n (fun i => (((g i).toNat : Nat) : Int)))) := Lib.hid (by
        have : tabI n (fun i => (((g i).toNat : Nat) : Int)) = tabI n g := by
          apply tab_congr
          intro i hi
          have := HN.out
          have h1 := HAL.out i (by omega)
          rcases hI.out.range (i := i) (by omega) with e9 | e9 <;> omega
        rw [this]; exact hT.out)
      go_wp2_with fail
      go_ret
      exact ⟨⟨G, fun i => (g i).toNat, ρ, rfl, HGL.out, HTF.out, hI.out.cert HAL.out⟩, hZ.out⟩
    | true =>
      obtain ⟨b, hbp, hbn, hgb⟩ := tab_pos HCB.out.symm
      have HBN : Hid (b < W.length ∧ g b = -1) := Lib.hid ⟨by have := HN.out; omega, hgb⟩
      have KP := Lib.hid (pointed_w (ca := ca) (HW.out.below hZ.out) HS.out HN.out hn8 HA.out hT.out HBN.out.1 HBN.out.2)
      have HGW : Hid (G < wo.heap.size) := Lib.hid hT.out.lt
      clear hgb KC
      go_wp2_with fail
      refine KP.out.mono ?_
      rintro en3 w3 ⟨⟨pa, pc, rfl, hPI, hPB⟩, hb3⟩
      have HPI := Lib.hid hPI
      have HPB : Hid (∀ x, pa = some x → x.block ≠ G) := Lib.hid (fun x hx => by have := hPB x hx; have := HGW.out; omega)
      have HT3 := Lib.hid (hT.out.below hb3)
      have HZ3 := Lib.hid (below_trans hZ.out hb3)
      have KI := Lib.hid (index_w (c := n) (v := -1) (HT3.out.ints HTW.out) (tab_len n g).symm (by omega))
      rw [hbp] at KI
      clear hPI hPB hb3 hT hZ KP HTW hbp HGW
      go_wp2_with fail
      refine KI.out.mono ?_
      rintro en4 w4 ⟨rfl, rfl⟩
      clear KI
      obtain ⟨p, hp⟩ : ∃ p, p = ptN W g := ⟨_, rfl⟩
      have HIT : Hid (∀ k, itN p k b < n ∧ ptI W g (itN p k b) = (itN p (k + 1) b : Int)) := Lib.hid (fun k => by
        rw [hp]
        have h1 := it_left HA.out HBN.out.1 HBN.out.2 k
        have h2 := pt_spec HA.out HBN.out.1 HBN.out.2 h1.1
        exact ⟨by have := HN.out; omega, h2.1⟩)
      go_wp2_with fail
      go_loopw [5, 18] (fun av iv wr => ∃ k : Nat, k ≤ n ∧ iv = .int .i64 k ∧ av = .int .i64 ((itN p k b : Nat) : Int) ∧ wr = w3) (fun _ iv _ => n - (intOf iv).toNat)
      case atStart => exact ⟨0, Nat.zero_le _, rfl, rfl, rfl⟩
      case round =>
        obtain ⟨k, hk, rfl, rfl, rfl⟩ := hrel
        by_cases hkn : k < n
        · have t0 : decide ((k : Int) < (n : Int)) = true := by simp; omega
          obtain ⟨hx1, hx2⟩ := HIT.out k
          obtain ⟨x, hx⟩ : ∃ x, x = itN p k b := ⟨_, rfl⟩
          obtain ⟨y, hy⟩ : ∃ y, y = itN p (k + 1) b := ⟨_, rfl⟩
          have HY := Lib.hid hy
          rw [← hx] at hx1 hx2 ⊢
          rw [← hy] at hx2
          obtain ⟨PB, po, hpa, hpc, -⟩ := HPI.out x _ (tab_get hx1)
          subst hpa
          rw [hx2] at hpc
          have e1 : wr.cell? ⟨PB, po + x, none⟩ = some (.int .i64 (y : Nat)) := hpc
          clear hpc hx hx2 hy
          go_wp2_with fail
          go_roundw
          case rel => exact ⟨k + 1, by omega, by go_num, by rw [← HY.out], by first | rfl | trivial⟩
          case measure => simp [intOf]; omega
        · have t0 : decide ((k : Int) < (n : Int)) = false := by simp; omega
          have hkk : k = n := by omega
          subst hkk
          obtain ⟨b2, hb2⟩ : ∃ b2, b2 = itN p k b := ⟨_, rfl⟩
          rw [← hb2]
          have HCY : Hid (∃ m, 0 < m ∧ itN p m b2 = b2) := Lib.hid (by
            rw [hb2]
            exact in_cycle (n := k) (by have := HBN.out.1; have := HN.out; omega) (fun x hx => by
              rw [hp]
              have h2 := pt_spec HA.out HBN.out.1 HBN.out.2 (i := x) (by have := HN.out; omega)
              have := HN.out
              omega))
          have HB2 : Hid (b2 < W.length ∧ g b2 = -1) := Lib.hid (by rw [hb2, hp]; exact it_left HA.out HBN.out.1 HBN.out.2 k)
          have HPP := Lib.hid hp
          clear HIT hb2 HBN hp hkn
          have HI2 : Hid (∀ j, itN p j b2 < k ∧ ptI W g (itN p j b2) = (itN p (j + 1) b2 : Int)) := Lib.hid (fun j => by
            rw [HPP.out]
            have h1 := it_left HA.out HB2.out.1 HB2.out.2 j
            have h2 := pt_spec HA.out HB2.out.1 HB2.out.2 h1.1
            exact ⟨by have := HN.out; omega, h2.1⟩)
          go_wp2_with fail
          go_loopg [5] (k + 1) (fun c av wr => ∃ j : Nat, av = .int .i64 ((itN p j b2 : Nat) : Int) ∧ Hid (c + j = k + 1) ∧ Hid ((orbL p b2 j).Nodup) ∧ Hid (BlkI wr G (tabI k (putG W g b2 j))) ∧ Hid (IntsF wr pa (tabI k (ptI W g))) ∧ Hid (Below w.heap.size w wr))
          case atStart => exact ⟨0, rfl, Lib.hid rfl, Lib.hid (by simp [orbL]), Lib.hid (by rw [putG_zero]; exact HT3.out), HPI, HZ3⟩
          case round =>
            obtain ⟨j, rfl, hcj, hnd, hT, hP, hZ⟩ := hrel
            obtain ⟨wp, rfl⟩ : ∃ wp : World, wp = wr := ⟨_, rfl⟩
            clear HT3 HPI HZ3
            obtain ⟨hx1, hx2⟩ := HI2.out j
            obtain ⟨x, hx⟩ : ∃ x, x = itN p j b2 := ⟨_, rfl⟩
            obtain ⟨y, hy⟩ : ∃ y, y = itN p (j + 1) b2 := ⟨_, rfl⟩
            have HY := Lib.hid hy
            have HX := Lib.hid hx
            rw [← hx] at hx1 hx2 ⊢
            rw [← hy] at hx2
            obtain ⟨v, hv⟩ : ∃ v, v = putG W g b2 j x := ⟨_, rfl⟩
            have e1 : wp.cell? ⟨G, x, none⟩ = some (.int .i64 v) := by rw [hv]; exact hT.out.cell (tab_get hx1)
            have hpv : v = -1 ↔ x ∉ orbL p b2 j := by rw [hv, hx, HPP.out]; exact putG_at HA.out HB2.out.1 HB2.out.2 j
            have HPV := Lib.hid hpv
            have HX2 := Lib.hid hx2
            clear hv hx hy hx2 hpv
            by_cases hv1 : v = -1
            · subst hv1
              obtain ⟨PB, po, hpa, hpc, -⟩ := hP.out x _ (tab_get hx1)
              subst hpa
              rw [HX2.out] at hpc
              have e2 : wp.cell? ⟨PB, po + x, none⟩ = some (.int .i64 (y : Nat)) := hpc
              clear hpc
              go_wp2_with ((with_reducible refine at_store ?_); refine wpList_store_int rfl (.tmp 36) (.tmp 35) rfl G x rfl (y : Int) rfl _ hT.out (by rw [tab_len]; exact hx1) ?_; intro wq hq onq; refine halt ?_)
              refine go_on ?_
              have HND9 : Hid ((orbL p b2 (j + 1)).Nodup) := Lib.hid (orb_more hnd.out (by rw [← HX.out]; exact HPV.out.1 (by first | rfl | trivial)))
              have HTq : Hid (BlkI wq G (tabI k (putG W g b2 (j + 1)))) := Lib.hid (by
                have h9 := hq
                rw [HX.out, HY.out] at h9
                rw [HPP.out] at h9
                rw [← putG_set]
                exact h9)
              have HPq := Lib.hid (hP.out.other onq HPB.out)
              have HZq := Lib.hid (below_only hZ.out onq HGL.out)
              have f2 : wq.cell? ⟨PB, po + x, none⟩ = some (.int .i64 (y : Nat)) := by
                rw [World.cell?_of_block (w := wp) (a := ⟨PB, po + x, none⟩) (onq.block PB (HPB.out _ rfl))]
                exact e2
              have HJL : Hid (j + 1 ≤ k) := Lib.hid (by
                have := orb_len HA.out HB2.out.1 HB2.out.2 (j := j + 1) (by rw [← HPP.out]; exact HND9.out)
                have := HN.out
                omega)
              clear hq onq hT hP hZ e1 e2
              go_wp2_with fail
              go_roundg (k - j)
              case measure => have := HJL.out; have := hcj.out; omega
              case rel => exact ⟨j + 1, by rw [← HY.out], Lib.hid (by have := HJL.out; omega), HND9, HTq, HPq, HZq⟩
            · have t1 : (v == -1) = false := by simpa using hv1
              have hmem : itN (ptN W g) j b2 ∈ orbL (ptN W g) b2 j := by
                rw [← HPP.out, ← HX.out]
                exact Classical.byContradiction (fun e => hv1 (HPV.out.2 e))
              have hnd' : (orbL (ptN W g) b2 j).Nodup := by rw [← HPP.out]; exact hnd.out
              have hcy' : ∃ m, 0 < m ∧ itN (ptN W g) m b2 = b2 := by rw [← HPP.out]; exact HCY.out
              have HI9 := Lib.hid (hI.out.cycle HA.out HB2.out.1 HB2.out.2 hcy' hnd' hmem)
              have HOL : Hid (openT k (putG W g b2 j) < openT k g) := Lib.hid (by
                have h9 := open_less (W := W) (g := g) HB2.out.1 HB2.out.2 (orb_closed hcy' hnd' hmem).2
                rw [← HN.out] at h9
                exact h9)
              clear hmem hnd' hcy'
              go_wp2_with fail
              go_roundg (openT k (putG W g b2 j))
              case measure => have := HOL.out; have := hgk.out; omega
              case rel => exact ⟨_, _, _, HI9, Lib.hid rfl, hT, hZ⟩
end Go.Proofs.Ytomnnickiljkgaa
