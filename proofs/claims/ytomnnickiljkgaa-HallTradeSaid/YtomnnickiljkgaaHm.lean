/- Block of the package. -/
import Derived.Test.YtomnnickiljkgaaHl
namespace Go.Proofs.Ytomnnickiljkgaa
open Go.RowKit
attribute [local go_sem ↓] Go.wp_at_zero Go.wp_at_succ

theorem turn_pos {np nr : Nat} {l : List Int} {g : Nat → Int} (hm : matQ np nr l = true) (h : TurnQ l nr l.length g) {j : Nat} (hj : j < nr) : g j = posQ l (j : Int) := by
  obtain ⟨h1, h2, h3⟩ := matQ_parts hm
  unfold posQ
  rcases h j hj with ⟨e, e2⟩ | ⟨k, e, e1, e2⟩
  · rw [if_neg, e]
    intro hmem
    obtain ⟨i, hi⟩ := List.getElem?_of_mem hmem
    exact e2 i (List.getElem?_eq_some_iff.1 hi).1 hi
  · have hmem := List.mem_of_getElem? e2
    rw [if_pos hmem, e, h3 _ _ _ (idxOf_mem hmem) e2 (by omega)]

set_option maxRecDepth 8000 in
set_option maxHeartbeats 8000000 in
theorem blocking_w {w : World} {nr ca cb m c : Nat} {a b d : Option Addr} {P R : List (List Int)} {l : List Int} (h : RowsF w a P) (hs : SmallL P) (hm : m = P.length) (h2 : RowsF w b R) (hs2 : SmallL R) (hm2 : nr = R.length) (hl : IntsF w d l) (hml : m = l.length) (hm12 : m ≤ 8) (hnr : nr ≤ 8) (hS : sidesQ P R) (hmt : matQ m nr l = true) :
    Calls Try.prog 35 #[.slice a m ca, .slice b nr cb, .slice d m c] w fun e w' => (∃ x y, e = .returned (.tuple #[.int .i64 x, .int .i64 y]) ∧ BlockR P R l x y) ∧ Below w.heap.size w w' := by
  have HMP := Lib.hid (matQ_parts hmt)
  have HMT := Lib.hid hmt
  have KT := Lib.hid (turned_w (n := nr) (c := c) hl hml (by omega) hnr HMP.out.2.1)
  have HP0 := Lib.hid h
  have HR0 := Lib.hid h2
  have HL0 := Lib.hid hl
  have HSP := Lib.hid hs
  have HSR := Lib.hid hs2
  have HM := Lib.hid hm
  have HM2 := Lib.hid hm2
  have HML := Lib.hid hml
  have HSD := Lib.hid hS
  clear h hs hm h2 hs2 hm2 hl hml hS hmt
  obtain ⟨w0, hw0⟩ : ∃ w0 : World, w0 = w := ⟨_, rfl⟩
  have HZ0 : Hid (Below w0.heap.size w0 w) := Lib.hid (by rw [hw0]; exact Below.refl _ _)
  go_enter Try.func35, Try.ntmps35
  go_wp2_with fail
  refine KT.out.mono ?_
  rintro en1 w1 ⟨⟨G, g, rfl, hG, hT, hQ⟩, hb1⟩
  have HB1 : Hid (Below w.heap.size w w1) := Lib.hid hb1
  have HP := Lib.hid (HP0.out.below hb1)
  have HR := Lib.hid (HR0.out.below hb1)
  have HL := Lib.hid (HL0.out.below hb1)
  have HPQ : Hid (∀ j, j < nr → g j = posQ l (j : Int)) := Lib.hid (fun j hj => turn_pos HMT.out (by rw [← HML.out]; exact hQ) hj)
  have HGB : Hid (∀ j, j < nr → w1.cell? ⟨G, j, none⟩ = some (.int .i64 (g j))) := Lib.hid (fun j hj => hT.cell (tab_get hj))
  clear hG hT hQ hb1 KT HP0 HR0 HL0 hw0 HZ0
  obtain ⟨wz, hwz⟩ : ∃ wz : World, wz = w := ⟨_, rfl⟩
  rw [← hwz] at HB1
  have HWZ := Lib.hid hwz.symm
  clear hwz
  have HFIN : Hid (∀ w', Below w1.heap.size w1 w' → Below w.heap.size w w') := Lib.hid (fun w' hb => by rw [HWZ.out]; exact below_trans HB1.out hb)
  go_wp2_with fail
  go_loopw [20] (fun iv wr => ∃ i : Nat, i ≤ m ∧ iv = .int .i64 i ∧ Hid (Below w1.heap.size w1 wr) ∧ Hid (∀ q, q < i → ClearB P R l q)) (fun iv _ => m - (intOf iv).toNat)
  case atStart => exact ⟨0, Nat.zero_le _, rfl, Lib.hid (Below.refl _ _), Lib.hid (fun q hq => absurd hq (Nat.not_lt_zero _))⟩
  case round =>
    obtain ⟨i, hi, rfl, hZ, hcl⟩ := hrel
    obtain ⟨wo, rfl⟩ : ∃ wo : World, wo = wr := ⟨_, rfl⟩
    by_cases hin : i < m
    rotate_left
    · have t0 : decide ((i : Int) < (m : Int)) = false := by simp; omega
      have HBR : Hid (BlockR P R l (-1) (-1)) := Lib.hid (Or.inl ⟨rfl, rfl, fun p hp => hcl.out p (by have := HM.out; omega)⟩)
      go_wp2_with fail
      go_ret2
      exact ⟨⟨_, _, rfl, HBR.out⟩, HFIN.out _ hZ.out⟩
    have t0 : decide ((i : Int) < (m : Int)) = true := by simp; omega
    obtain ⟨z, B3, off3, hz, hd, hzb, hc3⟩ := HL.out.at (i := i) (by have := HML.out; omega)
    subst hd
    have e1 := hc3 wo hZ.out
    have HZI9 : Hid (nthI l i = z) := Lib.hid (nthI_some hz)
    have hzr := HMP.out.2.1 z (List.mem_of_getElem? hz)
    obtain ⟨B, off, a', c', ha, hI, -, -, hc⟩ := HP.out.at (i := i) (by have := HM.out; omega)
    subst ha
    have e2 := hc wo hZ.out
    have hl1 := HSP.out.nth i
    have HLI := Lib.hid hI
    obtain ⟨ln, hln⟩ : ∃ x, x = (nthL P i).length := ⟨_, rfl⟩
    have HLN : Hid ((nthL P i).length = ln) := Lib.hid hln.symm
    rw [← hln] at e2 hl1
    clear hz hzb hc3 hI hc hln
    by_cases hz1 : z = -1
    · subst hz1
      have HUN : Hid (unwB P R l i = false) := Lib.hid (by unfold unwB; rw [HZI9.out]; rfl)
      have HZI := hZ
      clear hzr hZ
      go_wp2_with fail
      go_loopw [47] (fun iv wr => ∃ k : Nat, k ≤ nr ∧ iv = .int .i64 k ∧ Hid (Below w1.heap.size w1 wr) ∧ Hid (∀ s, s < k → blocksB P R l i s = false)) (fun iv _ => nr - (intOf iv).toNat)
      case atStart => exact ⟨0, Nat.zero_le _, rfl, HZI, Lib.hid (fun s hs => absurd hs (Nat.not_lt_zero _))⟩
      case round =>
        obtain ⟨k, hk, rfl, hZ, hnb⟩ := hrel
        obtain ⟨wo, rfl⟩ : ∃ wo : World, wo = wr := ⟨_, rfl⟩
        clear HZI
        by_cases hkn : k < nr
        · have t6 : decide ((k : Int) < (nr : Int)) = true := by simp; omega
          obtain ⟨B5, off5, a5, c5, hb5, hI5, -, -, hc5⟩ := HR.out.at (i := k) (by have := HM2.out; omega)
          cases hb5
          have f1 := hc5 wo hZ.out
          have hl5 := HSR.out.nth k
          have f2 : wo.cell? ⟨G, k, none⟩ = some (.int .i64 (posQ l (k : Int))) := by rw [← HPQ.out k hkn]; exact cell_below hZ.out (HGB.out k hkn)
          have A1 := Lib.hid (fun w' (hb : Below w1.heap.size w1 w') => ahead_w (c := c') (x := (k : Int)) (y := -1) (HLI.out.below hb) rfl (by have := HSP.out.nth i; omega) (no_none (sides_P HSD.out i).2))
          have A2 := Lib.hid (fun w' (hb : Below w1.heap.size w1 w') => ahead_w (c := c5) (x := (i : Int)) (y := posQ l (k : Int)) (hI5.below hb) rfl (by omega) (no_none (sides_R HSD.out k).2))
          obtain ⟨x1, hx1⟩ : ∃ x, x = decide (scoreQ (nthL P i) (k : Int) < scoreQ (nthL P i) (-1)) := ⟨_, rfl⟩
          obtain ⟨x2, hx2⟩ : ∃ x, x = decide (scoreQ (nthL R k) (i : Int) < scoreQ (nthL R k) (posQ l (k : Int))) := ⟨_, rfl⟩
          obtain ⟨ho, hho⟩ : ∃ x, x = posQ l (k : Int) := ⟨_, rfl⟩
          obtain ⟨l5, hl5'⟩ : ∃ x, x = (nthL R k).length := ⟨_, rfl⟩
          have HBB : Hid (blocksB P R l i k = (x1 && x2)) := Lib.hid (by unfold blocksB; rw [HZI9.out, hx1, hx2])
          rw [← hx1, HLN.out] at A1
          rw [← hx2, ← hho, ← hl5'] at A2
          rw [← hho] at f2
          rw [← hl5'] at f1
          clear hI5 hc5 hl5 hx1 hx2 hho hl5'
          go_wp2_with fail
          refine (A1.out _ hZ.out).mono ?_
          rintro en6 w6 ⟨rfl, rfl⟩
          cases x1 with
          | false =>
            have HN9 : Hid (∀ s, s < k + 1 → blocksB P R l i s = false) := Lib.hid (fun s hs => by
              by_cases hsk : s = k
              · rw [hsk, HBB.out]; rfl
              · exact hnb.out s (by omega))
            go_wp2_with fail
            go_roundw
            case rel => exact ⟨k + 1, by omega, by go_num, hZ, HN9⟩
            case measure => simp [intOf]; omega
          | true =>
            go_wp2_with fail
            refine (A2.out _ hZ.out).mono ?_
            rintro en6 w6 ⟨rfl, rfl⟩
            cases x2 with
            | false =>
              have HN9 : Hid (∀ s, s < k + 1 → blocksB P R l i s = false) := Lib.hid (fun s hs => by
                by_cases hsk : s = k
                · rw [hsk, HBB.out]; rfl
                · exact hnb.out s (by omega))
              go_wp2_with fail
              go_roundw
              case rel => exact ⟨k + 1, by omega, by go_num, hZ, HN9⟩
              case measure => simp [intOf]; omega
            | true =>
              have HBR : Hid (BlockR P R l (i : Int) (k : Int)) := Lib.hid (Or.inr ⟨i, by have := HM.out; omega, hcl.out, rfl, Or.inr ⟨HUN.out, k, by have := HM2.out; omega, hnb.out, by rw [HBB.out]; rfl, rfl⟩⟩)
              go_wp2_with fail
              go_ret2
              exact ⟨⟨_, _, rfl, HBR.out⟩, HFIN.out _ hZ.out⟩
        · have t6 : decide ((k : Int) < (nr : Int)) = false := by simp; omega
          have HC9 : Hid (∀ q, q < i + 1 → ClearB P R l q) := Lib.hid (fun q hq => by
            by_cases hqi : q = i
            · rw [hqi]
              exact ⟨HUN.out, fun s hs => hnb.out s (by have := HM2.out; omega)⟩
            · exact hcl.out q (by omega))
          go_wp2_with fail
          go_roundw
          case rel => exact ⟨i + 1, by omega, by go_num, hZ, HC9⟩
          case measure => simp [intOf]; omega
    · obtain ⟨r, rfl⟩ : ∃ r : Nat, z = (r : Int) := ⟨z.toNat, by omega⟩
      have hrn : r < nr := by omega
      have t1 : ((r : Int) == -1) = false := by simp
      have t2 : ((r : Int) != -1) = true := by simp
      obtain ⟨B2, off2, a2, c2, hb, hI2, -, -, hc2⟩ := HR.out.at (i := r) (by have := HM2.out; omega)
      subst hb
      have e3 := hc2 wo hZ.out
      have hl2 := HSR.out.nth r
      have W1 := Lib.hid (ahead_w (c := c') (x := -1) (y := (r : Int)) (HLI.out.below hZ.out) rfl (by have := HSP.out.nth i; omega) (no_none (sides_P HSD.out i).2))
      have W2 := Lib.hid (ahead_w (c := c2) (x := -1) (y := (i : Int)) (hI2.below hZ.out) rfl (by omega) (no_none (sides_R HSD.out r).2))
      rw [ahead_none (by omega) (no_none (sides_P HSD.out i).2)] at W1
      rw [ahead_none (by omega) (no_none (sides_R HSD.out r).2)] at W2
      obtain ⟨x1, hx1⟩ : ∃ x, x = decide (scoreQ (nthL P i) (r : Int) < (nthL P i).length) := ⟨_, rfl⟩
      obtain ⟨x2, hx2⟩ : ∃ x, x = decide (scoreQ (nthL R r) (i : Int) < (nthL R r).length) := ⟨_, rfl⟩
      have HU : Hid (unwB P R l i = (!x1 || !x2)) := Lib.hid (by
        unfold unwB
        rw [HZI9.out, atL_nat, ← hx1, ← hx2]
        have h9 : decide ((r : Int) ≠ -1) = true := by simp
        rw [h9, Bool.true_and])
      obtain ⟨l2, hl2'⟩ : ∃ x, x = (nthL R r).length := ⟨_, rfl⟩
      rw [← hx1, HLN.out] at W1
      rw [← hx2, ← hl2'] at W2
      rw [← hl2'] at e3
      clear hzr hI2 hc2 hl2 hx1 hx2 hl2' hz1
      go_wp2_with fail
      refine W1.out.mono ?_
      rintro en4 w4 ⟨rfl, rfl⟩
      cases x1 with
      | false =>
        have HUN : Hid (unwB P R l i = true) := Lib.hid (by rw [HU.out]; rfl)
        have HBR : Hid (BlockR P R l (i : Int) (-1)) := Lib.hid (Or.inr ⟨i, by have := HM.out; omega, hcl.out, rfl, Or.inl ⟨HUN.out, rfl⟩⟩)
        go_wp2_with fail
        go_ret2
        exact ⟨⟨_, _, rfl, HBR.out⟩, HFIN.out _ hZ.out⟩
      | true =>
        go_wp2_with fail
        refine W2.out.mono ?_
        rintro en4 w4 ⟨rfl, rfl⟩
        cases x2 with
        | false =>
          have HUN : Hid (unwB P R l i = true) := Lib.hid (by rw [HU.out]; rfl)
          have HBR : Hid (BlockR P R l (i : Int) (-1)) := Lib.hid (Or.inr ⟨i, by have := HM.out; omega, hcl.out, rfl, Or.inl ⟨HUN.out, rfl⟩⟩)
          go_wp2_with fail
          go_ret2
          exact ⟨⟨_, _, rfl, HBR.out⟩, HFIN.out _ hZ.out⟩
        | true =>
          have HUN : Hid (unwB P R l i = false) := Lib.hid (by rw [HU.out]; rfl)
          have HZI := hZ
          clear hZ e1 e3 W1 W2
          go_wp2_with fail
          go_loopw [47] (fun iv wr => ∃ k : Nat, k ≤ nr ∧ iv = .int .i64 k ∧ Hid (Below w1.heap.size w1 wr) ∧ Hid (∀ s, s < k → blocksB P R l i s = false)) (fun iv _ => nr - (intOf iv).toNat)
          case atStart => exact ⟨0, Nat.zero_le _, rfl, HZI, Lib.hid (fun s hs => absurd hs (Nat.not_lt_zero _))⟩
          case round =>
            obtain ⟨k, hk, rfl, hZ, hnb⟩ := hrel
            obtain ⟨wo, rfl⟩ : ∃ wo : World, wo = wr := ⟨_, rfl⟩
            clear HZI
            by_cases hkn : k < nr
            · have t6 : decide ((k : Int) < (nr : Int)) = true := by simp; omega
              obtain ⟨B5, off5, a5, c5, hb5, hI5, -, -, hc5⟩ := HR.out.at (i := k) (by have := HM2.out; omega)
              cases hb5
              have f1 := hc5 wo hZ.out
              have hl5 := HSR.out.nth k
              have f2 : wo.cell? ⟨G, k, none⟩ = some (.int .i64 (posQ l (k : Int))) := by rw [← HPQ.out k hkn]; exact cell_below hZ.out (HGB.out k hkn)
              have A1 := Lib.hid (fun w' (hb : Below w1.heap.size w1 w') => ahead_w (c := c') (x := (k : Int)) (y := (r : Int)) (HLI.out.below hb) rfl (by have := HSP.out.nth i; omega) (no_none (sides_P HSD.out i).2))
              have A2 := Lib.hid (fun w' (hb : Below w1.heap.size w1 w') => ahead_w (c := c5) (x := (i : Int)) (y := posQ l (k : Int)) (hI5.below hb) rfl (by omega) (no_none (sides_R HSD.out k).2))
              obtain ⟨x1, hx1⟩ : ∃ x, x = decide (scoreQ (nthL P i) (k : Int) < scoreQ (nthL P i) ((r : Int))) := ⟨_, rfl⟩
              obtain ⟨x2, hx2⟩ : ∃ x, x = decide (scoreQ (nthL R k) (i : Int) < scoreQ (nthL R k) (posQ l (k : Int))) := ⟨_, rfl⟩
              obtain ⟨ho, hho⟩ : ∃ x, x = posQ l (k : Int) := ⟨_, rfl⟩
              obtain ⟨l5, hl5'⟩ : ∃ x, x = (nthL R k).length := ⟨_, rfl⟩
              have HBB : Hid (blocksB P R l i k = (x1 && x2)) := Lib.hid (by unfold blocksB; rw [HZI9.out, hx1, hx2])
              rw [← hx1, HLN.out] at A1
              rw [← hx2, ← hho, ← hl5'] at A2
              rw [← hho] at f2
              rw [← hl5'] at f1
              clear hI5 hc5 hl5 hx1 hx2 hho hl5'
              go_wp2_with fail
              refine (A1.out _ hZ.out).mono ?_
              rintro en6 w6 ⟨rfl, rfl⟩
              cases x1 with
              | false =>
                have HN9 : Hid (∀ s, s < k + 1 → blocksB P R l i s = false) := Lib.hid (fun s hs => by
                  by_cases hsk : s = k
                  · rw [hsk, HBB.out]; rfl
                  · exact hnb.out s (by omega))
                go_wp2_with fail
                go_roundw
                case rel => exact ⟨k + 1, by omega, by go_num, hZ, HN9⟩
                case measure => simp [intOf]; omega
              | true =>
                go_wp2_with fail
                refine (A2.out _ hZ.out).mono ?_
                rintro en6 w6 ⟨rfl, rfl⟩
                cases x2 with
                | false =>
                  have HN9 : Hid (∀ s, s < k + 1 → blocksB P R l i s = false) := Lib.hid (fun s hs => by
                    by_cases hsk : s = k
                    · rw [hsk, HBB.out]; rfl
                    · exact hnb.out s (by omega))
                  go_wp2_with fail
                  go_roundw
                  case rel => exact ⟨k + 1, by omega, by go_num, hZ, HN9⟩
                  case measure => simp [intOf]; omega
                | true =>
                  have HBR : Hid (BlockR P R l (i : Int) (k : Int)) := Lib.hid (Or.inr ⟨i, by have := HM.out; omega, hcl.out, rfl, Or.inr ⟨HUN.out, k, by have := HM2.out; omega, hnb.out, by rw [HBB.out]; rfl, rfl⟩⟩)
                  go_wp2_with fail
                  go_ret2
                  exact ⟨⟨_, _, rfl, HBR.out⟩, HFIN.out _ hZ.out⟩
            · have t6 : decide ((k : Int) < (nr : Int)) = false := by simp; omega
              have HC9 : Hid (∀ q, q < i + 1 → ClearB P R l q) := Lib.hid (fun q hq => by
                by_cases hqi : q = i
                · rw [hqi]
                  exact ⟨HUN.out, fun s hs => hnb.out s (by have := HM2.out; omega)⟩
                · exact hcl.out q (by omega))
              go_wp2_with fail
              go_roundw
              case rel => exact ⟨i + 1, by omega, by go_num, hZ, HC9⟩
              case measure => simp [intOf]; omega

set_option maxRecDepth 8000 in
set_option maxHeartbeats 8000000 in
theorem block_w {w : World} {np ca nr cb m c : Nat} {a b d : Option Addr} {P R : List (List Int)} {l : List Int} (h : RowsF w a P) (hs : SmallL P) (hm : np = P.length) (h2 : RowsF w b R) (hs2 : SmallL R) (hm2 : nr = R.length) (hl : IntsF w d l) (hml : m = l.length) (hm12 : m ≤ 12) :
    Calls Try.prog 13 #[.slice a np ca, .slice b nr cb, .slice d m c] w fun e w' => (∃ x y, e = .returned (.tuple #[.int .i64 x, .int .i64 y, .int .i64 (errB P R l)]) ∧ BlkA P R l x y) ∧ Below w.heap.size w w' := by
  have K1 := Lib.hid (checkSides_w (c := ca) (c2 := cb) h hs hm h2 hs2 hm2)
  have K2 : Hid (nr ≤ 8 → ∀ w', Below w.heap.size w w' → Calls Try.prog 34 #[.slice d m c, .int .i64 (np : Nat), .int .i64 (nr : Nat)] w' fun e w'' => e = .returned (.bool (matQ np nr l)) ∧ Below w'.heap.size w' w'') := Lib.hid (fun hn w' hb => isMatching_w (hl.below hb) hml hm12 hn)
  obtain ⟨x, hx⟩ : ∃ x, x = errS P R := ⟨_, rfl⟩
  obtain ⟨mb, hmb⟩ : ∃ x, x = matQ np nr l := ⟨_, rfl⟩
  have HX := Lib.hid hx
  have HMB := Lib.hid hmb
  have HE : Hid (errB P R l = if x = 0 then (if mb = true then 0 else 70) else x) := Lib.hid (by unfold errB; rw [← hx, ← hm, ← hm2, ← hmb])
  have HP := Lib.hid h
  have HR := Lib.hid h2
  have HL := Lib.hid hl
  have HSP := Lib.hid hs
  have HSR := Lib.hid hs2
  have HM := Lib.hid hm
  have HM2 := Lib.hid hm2
  have HML := Lib.hid hml
  obtain ⟨eb, heb⟩ : ∃ x, x = errB P R l := ⟨_, rfl⟩
  have HEB := Lib.hid heb
  rw [← hx] at K1
  rw [← hmb] at K2
  rw [← heb] at HE ⊢
  clear h hs hm h2 hs2 hm2 hl hml hx hmb heb
  go_enter Try.func13, Try.ntmps13
  go_wp2_with fail
  refine K1.out.mono ?_
  rintro en2 w2 ⟨rfl, hb2⟩
  have HZ2 := Lib.hid hb2
  clear hb2
  by_cases hx0 : x = 0
  rotate_left
  · have u1 : (x == 0) = false := by simpa using hx0
    have u2 : (x != 0) = true := by simpa using hx0
    have HE9 : Hid (eb = x) := Lib.hid (by rw [HE.out, if_neg hx0])
    have HX0 := Lib.hid hx0
    go_wp2_with fail
    go_ret3
    exact ⟨⟨0, 0, by rw [HE9.out]; rfl, BlkA.bad (by rw [← HEB.out, HE9.out]; exact HX0.out)⟩, HZ2.out⟩
  subst hx0
  have hok := errS_ok (P := P) (R := R) HX.out.symm
  have HSD := Lib.hid hok.1
  have hnp : np ≤ 8 := by have := HM.out; omega
  have hnr : nr ≤ 8 := by have := HM2.out; omega
  clear hok
  go_wp2_with fail
  refine (K2.out hnr _ HZ2.out).mono ?_
  rintro en3 w3 ⟨rfl, hb3⟩
  have HZ3 := Lib.hid (below_trans HZ2.out hb3)
  clear hb3 HZ2
  cases mb with
  | false =>
    have HE9 : Hid (eb = 70) := Lib.hid (by rw [HE.out]; rfl)
    go_wp2_with fail
    go_ret3
    exact ⟨⟨0, 0, by rw [HE9.out]; rfl, BlkA.bad (by rw [← HEB.out, HE9.out]; decide)⟩, HZ3.out⟩
  | true =>
  have HE9 : Hid (eb = 0) := Lib.hid (by rw [HE.out]; rfl)
  have hmn : m = np := by rw [HML.out]; exact (matQ_parts HMB.out.symm).1
  subst hmn
  have KB := Lib.hid (blocking_w (ca := ca) (cb := cb) (c := c) (HP.out.below HZ3.out) HSP.out HM.out (HR.out.below HZ3.out) HSR.out HM2.out (HL.out.below HZ3.out) HML.out hnp hnr HSD.out HMB.out.symm)
  clear K1 K2 HE HX
  go_wp2_with fail
  refine KB.out.mono ?_
  rintro en4 w4 ⟨⟨x, y, rfl, hBR⟩, hb4⟩
  have HBA : Hid (BlkA P R l x y) := Lib.hid ⟨fun _ => hBR, fun e => absurd (by rw [← HEB.out, HE9.out]) e⟩
  have HZ4 := Lib.hid (below_trans HZ3.out hb4)
  clear hBR hb4 KB
  go_wp2_with fail
  go_ret3
  exact ⟨⟨x, y, by rw [HE9.out]; rfl, HBA.out⟩, HZ4.out⟩
end Go.Proofs.Ytomnnickiljkgaa
