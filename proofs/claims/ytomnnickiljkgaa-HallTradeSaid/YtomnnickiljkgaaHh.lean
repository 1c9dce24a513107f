/- Whom each receiver keeps. -/
import Derived.Test.YtomnnickiljkgaaHg
import Derived.Test.YtomnnickiljkgaaHf
import Derived.Deep.LoopGhost
import Derived.Deep.Cut
import Derived.WalkMore
namespace Go.Proofs.Ytomnnickiljkgaa
open Go.RowKit
attribute [local go_sem ↓] Go.wp_at_zero Go.wp_at_succ

/-- Quiet calls in a region that draws, of contracts that name the caller's world on the left. -/
theorem quiet_left {P : Program} {f : FuncId} {args : Array Value} {w : World} {n : Nat} {v : Value}
    (h : Calls P f args (w.drewN n) fun e w' => e = .returned v ∧ w.drewN n = w') : Calls P f args (w.drewN n) fun e w'' => e = .returned v ∧ ∃ m, w'' = w.drewN m :=
  h.mono fun _ _ ⟨he, hm⟩ => ⟨he, n, hm.symm⟩

set_option maxRecDepth 8000 in
set_option maxHeartbeats 8000000 in
theorem kept_w {w : World} {np ca nr cb : Nat} {a b : Option Addr} {P R : List (List Int)} (h : RowsF w a P) (hs : SmallL P) (hm : np = P.length) (h2 : RowsF w b R) (hs2 : SmallL R) (hm2 : nr = R.length) (hn : nr ≤ 8) (hS : sidesQ P R) :
    Calls Try.prog 33 #[.slice a np ca, .slice b nr cb] w fun e w' => (∃ B c h, e = .returned (.slice (some ⟨B, 0, none⟩) nr nr) ∧ w.heap.size ≤ B ∧ BlkI w' B (tabI nr (fun s => h (s : Int))) ∧ Inv P R c h ∧ ∀ p, p < np → DoneQ P c h p) ∧ Below w.heap.size w w' := by
  have HP := Lib.hid h
  have HR := Lib.hid h2
  have HSP := Lib.hid hs
  have HSR := Lib.hid hs2
  have HM := Lib.hid hm
  have HM2 := Lib.hid hm2
  have HSD := Lib.hid hS
  have hnp : np ≤ 12 := by rw [hm]; exact hs.1
  clear h h2 hs hs2 hm hm2 hS
  have KN := Lib.hid (nothing_w (w := w) (n := nr) hn)
  go_enter Try.func33, Try.ntmps33
  go_wp2_with fail
  go_step3
  go_wp2_with fail
  refine KN.out.mono ?_
  rintro en1 w1 ⟨G, rfl, hG, hT1, hb1⟩
  have HG := Lib.hid hG
  have HB1 := Lib.hid hb1
  have HT1 := Lib.hid hT1
  clear hG hb1 hT1 KN
  go_wp2_with (at_make; refine wpList_make_ints rfl _ _ _ rfl Try.underlying23 info_int9 np rfl rfl (by omega) ?_; intro w2 hr2 hb2 hs2; refine halt ?_)
  refine go_on ?_
  obtain ⟨A, hA⟩ : ∃ A, A = w1.heap.size := ⟨_, rfl⟩
  rw [← hA] at hr2 ⊢
  have HGA : Hid (G ≠ A) := Lib.hid (by rw [hA]; have := HT1.out.lt; omega)
  have HAL : Hid (w.heap.size ≤ A) := Lib.hid (by rw [hA]; exact HB1.out.size)
  have HT2 : Hid (BlkI w2 G (tabI nr (fun _ => -1))) := Lib.hid (by rw [tab_rep]; exact HT1.out.below hb2)
  have HU2 : Hid (BlkI w2 A (tabI np (fun _ => ((0 : Nat) : Int)))) := Lib.hid (by rw [tab_rep]; exact hr2)
  have HZ2 : Hid (Below w.heap.size w w2) := Lib.hid (below_trans HB1.out hb2)
  clear hr2 hb2 hs2 hA HT1 HB1
  go_wp2_with fail
  go_step3
  go_wp2_with fail
  go_loopw [18] (fun iv wr => ∃ (i : Nat) (c : Nat → Nat) (h : Int → Int), i ≤ np ∧ iv = .int .i64 i ∧ Hid (Out P R i c h) ∧ Hid (BlkI wr G (tabI nr (fun s => h (s : Int)))) ∧ Hid (BlkI wr A (tabI np (fun p => (c p : Int)))) ∧ Hid (Below w.heap.size w wr)) (fun iv _ => np - (intOf iv).toNat)
  case atStart => exact ⟨0, _, _, Nat.zero_le _, rfl, Lib.hid (Out.start P R), HT2, HU2, HZ2⟩
  case round =>
    obtain ⟨i, c0, h0, hi, rfl, hO, hT, hU, hZ⟩ := hrel
    obtain ⟨wo, rfl⟩ : ∃ wo : World, wo = wr := ⟨_, rfl⟩
    clear HT2 HU2 HZ2
    by_cases hin : i < np
    · have t0 : decide ((i : Int) < (np : Int)) = true := by simp; omega
      go_wp2_with fail
      go_loopg [8] (leftQ P c0 P.length) (fun k xv wr => ∃ (x : Int) (c : Nat → Nat) (h : Int → Int), xv = .int .i64 x ∧ Hid (Mid P R i c h x) ∧ Hid (k = leftQ P c P.length) ∧ Hid (BlkI wr G (tabI nr (fun s => h (s : Int)))) ∧ Hid (BlkI wr A (tabI np (fun p => (c p : Int)))) ∧ Hid (Below w.heap.size w wr))
      case atStart => exact ⟨(i : Int), c0, h0, rfl, Lib.hid hO.out.mid, Lib.hid rfl, hT, hU, hZ⟩
      case round =>
        obtain ⟨x, c, h, rfl, hMD, hgk, hT, hU, hZ⟩ := hrel
        obtain ⟨w3, rfl⟩ : ∃ w3 : World, w3 = wr := ⟨_, rfl⟩
        clear hO
        by_cases hx : x = -1
        · subst hx
          have HO9 := Lib.hid hMD.out.out_none
          go_wp2_with fail
          go_roundw
          case rel => exact ⟨i + 1, c, h, by omega, by go_num, HO9, hT, hU, hZ⟩
          case measure => simp [intOf]; omega
        · have t1 : (x == -1) = false := by simpa using hx
          have t2 : (x != -1) = true := by simpa using hx
          obtain ⟨q, rfl, hq, HF⟩ : ∃ q : Nat, x = (q : Int) ∧ q ≤ i ∧ Hid (FreeQ h q) := by
            rcases hMD.out.cur with e | ⟨q, e, e1, e2⟩
            · exact absurd e hx
            · exact ⟨q, e, e1, Lib.hid e2⟩
          have hqn : q < np := by omega
          obtain ⟨B, off, a', c', ha, hI, hlc, hl9, hc⟩ := HP.out.at (i := q) (by have := HM.out; omega)
          subst ha
          have hl12 := HSP.out.nth q
          have HIQ := Lib.hid hI
          have e1 := hc w3 hZ.out
          obtain ⟨ln, hln⟩ : ∃ ln, ln = (nthL P q).length := ⟨_, rfl⟩
          obtain ⟨cq, hcq⟩ : ∃ cq, cq = c q := ⟨_, rfl⟩
          have e2 : w3.cell? ⟨A, q, none⟩ = some (.int .i64 (cq : Nat)) := by rw [hcq]; exact hU.out.cell (tab_get (f := fun p => (c p : Int)) hqn)
          have hcl : cq ≤ ln := by rw [hcq, hln]; exact hMD.out.inv.len q
          rw [← hln] at e1 hl12 hlc
          have HLN := Lib.hid hln
          have HCQ := Lib.hid hcq
          have HC9 := Lib.hid hc
          clear hI hl9 hc hln hcq
          by_cases hcl2 : cq = ln
          · have HO9 := Lib.hid (hMD.out.out_all (by have := HLN.out; have := HCQ.out; omega))
            subst hcl2
            go_wp2_with fail
            go_quiet (fail)
            have HT9 : Hid (BlkI (w3.drewN nq) G (tabI nr (fun s => h (s : Int)))) := Lib.hid (hT.out.drewN _)
            have HU9 : Hid (BlkI (w3.drewN nq) A (tabI np (fun p => (c p : Int)))) := Lib.hid (hU.out.drewN _)
            have HZ9 : Hid (Below w.heap.size w (w3.drewN nq)) := Lib.hid (below_drewN hZ.out _)
            go_wp2_with fail
            go_roundw
            case rel => exact ⟨i + 1, c, h, by omega, by go_num, HO9, HT9, HU9, HZ9⟩
            case measure => simp [intOf]; omega
          · have t3 : ((cq : Int) == (ln : Int)) = false := by simp; omega
            have hcl3 : cq < ln := by omega
            obtain ⟨z, hz⟩ : ∃ z, (nthL P q)[cq]? = some z := ⟨_, List.getElem?_eq_getElem (by rw [← HLN.out]; exact hcl3)⟩
            obtain ⟨hz0, hz1⟩ := (sides_P HSD.out q).2 z (List.mem_of_getElem? hz)
            obtain ⟨r, rfl⟩ : ∃ r : Nat, z = (r : Int) := ⟨z.toNat, by omega⟩
            have hrn : r < nr := by have := HM2.out; omega
            have HZQ : Hid ((nthL P q)[c q]? = some (r : Int)) := Lib.hid (by rw [← HCQ.out]; exact hz)
            obtain ⟨Bq, oq, haq, hcell, -⟩ := HIQ.out cq _ hz
            subst haq
            have e3 : w3.cell? ⟨Bq, oq + cq, none⟩ = some (.int .i64 (r : Nat)) := cell_below hZ.out hcell
            obtain ⟨hv, hhv⟩ : ∃ hv, hv = h (r : Int) := ⟨_, rfl⟩
            have HHV := Lib.hid hhv
            obtain ⟨ab, hab⟩ : ∃ ab, ab = decide (scoreQ (nthL R r) (q : Int) < scoreQ (nthL R r) hv) := ⟨_, rfl⟩
            have HAB := Lib.hid hab
            obtain ⟨B2, off2, a2, c2, hb2, hI2, -, -, hc2⟩ := HR.out.at (i := r) (by have := HM2.out; omega)
            subst hb2
            have hl2 := HSR.out.nth r
            obtain ⟨lr, hlr⟩ : ∃ lr, lr = (nthL R r).length := ⟨_, rfl⟩
            have KA : Hid (∀ w', Below w.heap.size w w' → Calls Try.prog 52 #[.slice a2 lr c2, .int .i64 (q : Nat), .int .i64 hv] w' fun e w'' => e = .returned (.bool ab) ∧ w' = w'') := Lib.hid (fun w' hb => by
              rw [hab, hlr]
              exact ahead_w (hI2.below hb) rfl (by omega) (no_none (sides_R HSD.out r).2))
            rw [← hlr] at hc2 hl2
            have HC2 := Lib.hid hc2
            clear hz hz0 hz1 hcell hhv hab hI2 hc2 hlr HIQ
            go_wp2_with fail
            go_quiet (fail)
            obtain ⟨w4, hw4⟩ : ∃ w4, w4 = w3.drewN nq := ⟨_, rfl⟩
            rw [← hw4]
            have f1 : w4.cell? ⟨B, off + q, none⟩ = some (.slice (some ⟨Bq, oq, none⟩) ln c') := by rw [hw4]; exact e1
            have f2 : w4.cell? ⟨A, q, none⟩ = some (.int .i64 (cq : Nat)) := by rw [hw4]; exact e2
            have f3 : w4.cell? ⟨Bq, oq + cq, none⟩ = some (.int .i64 (r : Nat)) := by rw [hw4]; exact e3
            have hT4 : Hid (BlkI w4 G (tabI nr (fun s => h (s : Int)))) := Lib.hid (by rw [hw4]; exact hT.out.drewN _)
            have hU4 : Hid (BlkI w4 A (tabI np (fun p => (c p : Int)))) := Lib.hid (by rw [hw4]; exact hU.out.drewN _)
            have hZ4 : Hid (Below w.heap.size w w4) := Lib.hid (by rw [hw4]; exact below_drewN hZ.out _)
            clear e1 e2 e3 hT hU hZ hw4 nq
            go_wp2_with fail
            go_quiet (fail)
            obtain ⟨w5, hw5⟩ : ∃ w5, w5 = w4.drewN nq := ⟨_, rfl⟩
            rw [← hw5]
            have e2 : w5.cell? ⟨A, q, none⟩ = some (.int .i64 (cq : Nat)) := by rw [hw5]; exact f2
            have hT5 : Hid (BlkI w5 G (tabI nr (fun s => h (s : Int)))) := Lib.hid (by rw [hw5]; exact hT4.out.drewN _)
            have hU5 : Hid (BlkI w5 A (tabI np (fun p => (c p : Int)))) := Lib.hid (by rw [hw5]; exact hU4.out.drewN _)
            have hZ5 : Hid (Below w.heap.size w w5) := Lib.hid (by rw [hw5]; exact below_drewN hZ4.out _)
            have z0 := hU5.out.frozen q
            clear f1 f2 f3 hT4 hU4 hZ4 hw5 nq
            obtain ⟨w6, hw6⟩ : ∃ w6, w6 = w5.setCell ⟨A, q, none⟩ (.int .i64 ((cq : Int) + 1)) := ⟨_, rfl⟩
            have hon : Only A w5 w6 := by rw [hw6]; exact (Only.refl A w5).setCell q _
            have hT6 : Hid (BlkI w6 G (tabI nr (fun s => h (s : Int)))) := Lib.hid (hT5.out.other hon HGA.out)
            have hU6 : Hid (BlkI w6 A (tabI np (fun p => (upC c q p : Int)))) := Lib.hid (by
              have h9 := hU5.out.setCell q ((c q + 1 : Nat) : Int)
              rw [tab_upC, ← HCQ.out] at h9
              rw [hw6]; exact h9)
            have hZ6 : Hid (Below w.heap.size w w6) := Lib.hid (below_only hZ5.out hon HAL.out)
            have HW6 := Lib.hid hw6.symm
            have d1 := HC2.out w6 hZ6.out
            have d2 : w6.cell? ⟨G, r, none⟩ = some (.int .i64 hv) := by rw [HHV.out]; exact hT6.out.cell (tab_get (f := fun s => h (s : Int)) hrn)
            have KB : Hid (∀ n, Calls Try.prog 52 #[.slice a2 lr c2, .int .i64 (q : Nat), .int .i64 hv] (w6.drewN n) fun e w'' => e = .returned (.bool ab) ∧ w6.drewN n = w'') := Lib.hid (fun n => KA.out _ (below_drewN hZ6.out n))
            clear hw6 hon hT5 hU5 hZ5
            go_wp2_with fail
            rw [HW6.out]
            clear HW6 e2 z0
            go_quiet ((go_at_call 52; exact quiet_left (KB.out _)))
            obtain ⟨w7, hw7⟩ : ∃ w7, w7 = w6.drewN nq := ⟨_, rfl⟩
            rw [← hw7]
            have e6 : w7.cell? ⟨G, r, none⟩ = some (.int .i64 hv) := by rw [hw7]; exact d2
            have hT7 : Hid (BlkI w7 G (tabI nr (fun s => h (s : Int)))) := Lib.hid (by rw [hw7]; exact hT6.out.drewN _)
            have hU7 : Hid (BlkI w7 A (tabI np (fun p => (upC c q p : Int)))) := Lib.hid (by rw [hw7]; exact hU6.out.drewN _)
            have hZ7 : Hid (Below w.heap.size w w7) := Lib.hid (by rw [hw7]; exact below_drewN hZ6.out _)
            have HLQ : Hid (leftQ P (upC c q) P.length < gk) := Lib.hid (by
              have h9 := leftQ_up (P := P) (c := c) (p := q) (n := P.length) (by have := HM.out; omega) (by have := HLN.out; have := HCQ.out; omega)
              have := hgk.out
              omega)
            have hip : i < P.length := by have := HM.out; omega
            clear d1 d2 hT6 hU6 hZ6 hw7 nq KA KB
            cases ab with
            | false =>
              have HM9 : Hid (Mid P R i (upC c q) h (q : Int)) := Lib.hid (hMD.out.reject HSD.out hip HZQ.out (by
                have h9 := HAB.out
                rw [HHV.out] at h9
                rw [atL_nat]
                simpa using h9.symm))
              clear hip e6
              go_wp2_with fail
              go_roundg (leftQ P (upC c q) P.length)
              case measure => exact HLQ.out
              case rel => exact ⟨(q : Int), upC c q, h, rfl, HM9, Lib.hid rfl, hT7, hU7, hZ7⟩
            | true =>
              have HM9 : Hid (Mid P R i (upC c q) (upH h (r : Int) (q : Int)) hv) := Lib.hid (by
                rw [HHV.out]
                refine hMD.out.take HSD.out hip HZQ.out ?_
                have h9 := HAB.out
                rw [HHV.out] at h9
                rw [atL_nat]
                simpa using h9.symm)
              have z1 := hT7.out.frozen r
              have hon8 : Hid (Only G w7 (w7.setCell ⟨G, r, none⟩ (.int .i64 (q : Nat)))) := Lib.hid ((Only.refl G w7).setCell r _)
              have hT8 : Hid (BlkI (w7.setCell ⟨G, r, none⟩ (.int .i64 (q : Nat))) G (tabI nr (fun s => upH h (r : Int) (q : Int) (s : Int)))) := Lib.hid (by
                have h9 := hT7.out.setCell r (q : Int)
                rw [tab_upH] at h9
                exact h9)
              have hU8 : Hid (BlkI (w7.setCell ⟨G, r, none⟩ (.int .i64 (q : Nat))) A (tabI np (fun p => (upC c q p : Int)))) := Lib.hid (hU7.out.other hon8.out (fun e => HGA.out e.symm))
              have hZ8 : Hid (Below w.heap.size w (w7.setCell ⟨G, r, none⟩ (.int .i64 (q : Nat)))) := Lib.hid (below_only hZ7.out hon8.out HG.out)
              clear hip hon8 hT7 hU7 hZ7
              go_wp2_with fail
              go_roundg (leftQ P (upC c q) P.length)
              case measure => exact HLQ.out
              case rel => exact ⟨hv, upC c q, upH h (r : Int) (q : Int), rfl, HM9, Lib.hid rfl, hT8, hU8, hZ8⟩
    · have t0 : decide ((i : Int) < (np : Int)) = false := by simp; omega
      have HO := Lib.hid hO
      go_wp2_with fail
      rw [Exit.noGoto_ret]
      go_ret
      exact ⟨⟨G, c0, h0, rfl, HG.out, hT.out, hO.out.inv, fun p hp => hO.out.done p (by omega)⟩, hZ.out⟩
end Go.Proofs.Ytomnnickiljkgaa
