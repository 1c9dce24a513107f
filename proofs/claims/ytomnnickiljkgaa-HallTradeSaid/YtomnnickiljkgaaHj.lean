/- Accept of the reference. -/
import Derived.Test.YtomnnickiljkgaaHi
import Derived.Test.YtomnnickiljkgaaHs
namespace Go.Proofs.Ytomnnickiljkgaa
open Go.RowKit
attribute [local go_sem ↓] Go.wp_at_zero Go.wp_at_succ

/-- Is there anybody who is free and has somebody left to ask? -/
def FreeAt (P : List (List Int)) (m : Nat → Int) (c : Nat → Nat) (p : Nat) : Prop := m p = -1 ∧ c p < (nthL P p).length
def FreeR (P : List (List Int)) (m : Nat → Int) (c : Nat → Nat) (x : Int) : Prop := (x = -1 ∧ ∀ p, p < P.length → ¬ FreeAt P m c p) ∨ ∃ q : Nat, x = (q : Int) ∧ q < P.length ∧ FreeAt P m c q
set_option maxRecDepth 8000 in
set_option maxHeartbeats 4000000 in
theorem rfree_w {w : World} {np ca M N : Nat} {a : Option Addr} {P : List (List Int)} {mt : Nat → Int} {c : Nat → Nat} (h : RowsF w a P) (hs : SmallL P) (hm : np = P.length) (hM : BlkI w M (tabI np mt)) (hN : BlkI w N (tabI np (fun p => (c p : Int)))) (hcl : ∀ p, c p ≤ (nthL P p).length) :
    Calls Try.prog 28 #[.slice a np ca, .slice (some ⟨M, 0, none⟩) np np, .slice (some ⟨N, 0, none⟩) np np] w fun e w' => (∃ x, e = .returned (.int .i64 x) ∧ FreeR P mt c x) ∧ Below w.heap.size w w' := by
  have HP := Lib.hid h
  have HS := Lib.hid hs
  have HM := Lib.hid hm
  have HBM := Lib.hid hM
  have HBN := Lib.hid hN
  have HCL := Lib.hid hcl
  have hnp : np ≤ 12 := by rw [hm]; exact hs.1
  clear h hs hm hM hN hcl
  go_enter Try.func28, Try.ntmps28
  go_wp2_with fail
  go_loopw [7] (fun iv wr => ∃ i : Nat, i ≤ np ∧ iv = .int .i64 i ∧ Hid (Below w.heap.size w wr) ∧ Hid (∀ p, p < i → ¬ FreeAt P mt c p)) (fun iv _ => np - (intOf iv).toNat)
  case atStart => exact ⟨0, Nat.zero_le _, rfl, Lib.hid (Below.refl _ _), Lib.hid (fun p hp => absurd hp (Nat.not_lt_zero _))⟩
  case round =>
    obtain ⟨i, hi, rfl, hZ, hno⟩ := hrel
    obtain ⟨wo, rfl⟩ : ∃ wo : World, wo = wr := ⟨_, rfl⟩
    by_cases hin : i < np
    · have t0 : decide ((i : Int) < (np : Int)) = true := by simp; omega
      obtain ⟨B, off, a', c', ha, -, hlc, hl9, hc⟩ := HP.out.at (i := i) (by have := HM.out; omega)
      subst ha
      have hl12 := HS.out.nth i
      have hci := HCL.out i
      have e1 := hc wo hZ.out
      obtain ⟨mv, hmv⟩ : ∃ mv, mv = mt i := ⟨_, rfl⟩
      obtain ⟨cv, hcv⟩ : ∃ cv, cv = c i := ⟨_, rfl⟩
      obtain ⟨ln, hln⟩ : ∃ ln, ln = (nthL P i).length := ⟨_, rfl⟩
      have e2 : wo.cell? ⟨M, i, none⟩ = some (.int .i64 mv) := by rw [hmv]; exact cell_below hZ.out (HBM.out.cell (tab_get hin))
      have e3 : wo.cell? ⟨N, i, none⟩ = some (.int .i64 (cv : Nat)) := by rw [hcv]; exact cell_below hZ.out (HBN.out.cell (tab_get (f := fun p => (c p : Int)) hin))
      rw [← hln] at e1 hlc hl12 hci
      rw [← hcv] at hci
      have HF : Hid (FreeAt P mt c i ↔ mv = -1 ∧ cv < ln) := Lib.hid (by rw [hmv, hcv, hln]; exact Iff.rfl)
      clear hc hl9 hmv hcv hln
      by_cases hm1 : mv = -1
      · subst hm1
        by_cases hcl : cv < ln
        · have t1 : decide ((cv : Int) < (ln : Int)) = true := by simp; omega
          have HFI : Hid (FreeAt P mt c i) := Lib.hid (HF.out.2 ⟨rfl, hcl⟩)
          go_wp2_with fail
          go_quiet (fail)
          have HZ9 : Hid (Below w.heap.size w (wo.drewN nq)) := Lib.hid (below_drewN hZ.out _)
          go_wp2_with fail
          go_ret
          exact ⟨⟨_, rfl, Or.inr ⟨i, rfl, by have := HM.out; omega, HFI.out⟩⟩, HZ9.out⟩
        · have t1 : decide ((cv : Int) < (ln : Int)) = false := by simp; omega
          have HN9 : Hid (∀ p, p < i + 1 → ¬ FreeAt P mt c p) := Lib.hid (fun p hp => by
            by_cases hpi : p = i
            · subst hpi
              exact fun e => hcl (HF.out.1 e).2
            · exact hno.out p (by omega))
          go_wp2_with fail
          go_quiet (fail)
          have HZ9 : Hid (Below w.heap.size w (wo.drewN nq)) := Lib.hid (below_drewN hZ.out _)
          go_wp2_with fail
          go_roundw
          case rel => exact ⟨i + 1, by omega, by go_num, HZ9, HN9⟩
          case measure => simp [intOf]; omega
      · have t1 : (mv == -1) = false := by simpa using hm1
        have t2 : decide (mv = -1) = false := by simpa using hm1
        have HN9 : Hid (∀ p, p < i + 1 → ¬ FreeAt P mt c p) := Lib.hid (fun p hp => by
          by_cases hpi : p = i
          · subst hpi
            exact fun e => hm1 (HF.out.1 e).1
          · exact hno.out p (by omega))
        go_wp2_with fail
        go_quiet (fail)
        have HZ9 : Hid (Below w.heap.size w (wo.drewN nq)) := Lib.hid (below_drewN hZ.out _)
        go_wp2_with fail
        go_roundw
        case rel => exact ⟨i + 1, by omega, by go_num, HZ9, HN9⟩
        case measure => simp [intOf]; omega
    · have t0 : decide ((i : Int) < (np : Int)) = false := by simp; omega
      have HN9 : Hid (∀ p, p < P.length → ¬ FreeAt P mt c p) := Lib.hid (fun p hp => hno.out p (by have := HM.out; omega))
      go_wp2_with fail
      go_ret
      exact ⟨⟨_, rfl, Or.inl ⟨rfl, HN9.out⟩⟩, hZ.out⟩

/-- The matching is whom each receiver keeps. -/
def SameM (np : Nat) (h : Int → Int) (m : Nat → Int) : Prop := ∀ p, p < np → (m p ≠ -1 → h (m p) = (p : Int)) ∧ ∀ r, h r = (p : Int) → m p = r
theorem SameM.free {np : Nat} {h : Int → Int} {m : Nat → Int} (H : SameM np h m) {p : Nat} (hp : p < np) (he : m p = -1) (hS : ∀ r, h r = (p : Int) → r ≠ -1) : FreeQ h p := fun r hr => hS r hr ((H p hp).2 r hr ▸ he)
def upM (m : Nat → Int) (h : Int → Int) (r : Int) (q : Nat) : Nat → Int := fun p => if p = q then r else if (p : Int) = h r then -1 else m p
theorem SameM.take {P R : List (List Int)} {c : Nat → Nat} {h : Int → Int} {m : Nat → Int} {q : Nat} {r : Int} (H : SameM P.length h m) (hI : Inv P R c h) (hq : FreeQ h q) :
    SameM P.length (upH h r (q : Int)) (upM m h r q) := fun p hp => by
  unfold upM
  by_cases hpq : p = q
  · subst hpq
    rw [if_pos rfl]
    refine ⟨fun _ => by simp [upH], fun s hs => ?_⟩
    unfold upH at hs
    split at hs
    · rename_i e; exact e.symm
    · exact absurd hs (hq s)
  · rw [if_neg hpq]
    by_cases hpr : (p : Int) = h r
    · rw [if_pos hpr]
      refine ⟨fun e => absurd rfl e, fun s hs => ?_⟩
      exfalso
      unfold upH at hs
      split at hs
      · omega
      · rename_i e
        exact e (hI.one hs hpr.symm)
    · rw [if_neg hpr]
      refine ⟨fun hne => ?_, fun s hs => ?_⟩
      · have h1 := (H p hp).1 hne
        unfold upH
        rw [if_neg (fun e => hpr (by rw [← e, h1]))]
        exact h1
      · unfold upH at hs
        split at hs
        · omega
        · exact (H p hp).2 s hs
theorem tab_upM0 {n : Nat} {m : Nat → Int} {h : Int → Int} {r : Int} {q : Nat} (hr : h r = -1) : (tabI n m).set q r = tabI n (upM m h r q) := by
  rw [tab_set]
  apply tab_congr
  intro i _
  unfold upM
  by_cases e : i = q
  · rw [if_pos e, if_pos e]
  · rw [if_neg e, if_neg e, hr, if_neg (by omega)]
theorem tab_upM1 {n : Nat} {m : Nat → Int} {h : Int → Int} {r : Int} {q o : Nat} (hr : h r = (o : Int)) (hoq : o ≠ q) : ((tabI n m).set o (-1)).set q r = tabI n (upM m h r q) := by
  rw [tab_set, tab_set]
  apply tab_congr
  intro i _
  unfold upM
  by_cases e : i = q
  · rw [if_pos e, if_pos e]
  · rw [if_neg e, if_neg e, hr]
    by_cases e2 : i = o
    · subst e2; simp
    · rw [if_neg e2, if_neg (by omega)]

set_option maxRecDepth 8000 in
set_option maxHeartbeats 8000000 in
theorem raccept_w {w : World} {np ca nr cb : Nat} {a b : Option Addr} {P R : List (List Int)} (h : RowsF w a P) (hs : SmallL P) (hm : np = P.length) (h2 : RowsF w b R) (hs2 : SmallL R) (hm2 : nr = R.length) :
    Calls Try.prog 10 #[.slice a np ca, .slice b nr cb] w fun e w' => (∃ va vc l, e = .returned (.tuple #[.slice va l.length vc, .int .i64 (errS P R)]) ∧ IntsF w' va l ∧ AccQ P R l) ∧ Below w.heap.size w w' := by
  have K1 := Lib.hid (rsides_w (c := ca) (c2 := cb) h hs hm h2 hs2 hm2)
  obtain ⟨x, hx⟩ : ∃ x, x = errS P R := ⟨_, rfl⟩
  have HX := Lib.hid hx
  have HP := Lib.hid h
  have HR := Lib.hid h2
  have HSP := Lib.hid hs
  have HSR := Lib.hid hs2
  have HM := Lib.hid hm
  have HM2 := Lib.hid hm2
  rw [← hx] at K1 ⊢
  clear h hs hm h2 hs2 hm2 hx
  go_enter Try.func10, Try.ntmps10
  go_wp2_with fail
  refine K1.out.mono ?_
  rintro en2 w2 ⟨rfl, rfl⟩
  clear K1
  by_cases hx0 : x = 0
  rotate_left
  · have u1 : (x == 0) = false := by simpa using hx0
    have u2 : (x != 0) = true := by simpa using hx0
    have HX0 := Lib.hid hx0
    go_wp2_with fail
    go_ret2
    exact ⟨⟨none, 0, [], rfl, IntsF.nil _ _, fun he => absurd (HX.out.trans he) HX0.out, fun _ => rfl⟩, Below.refl _ _⟩
  have hok := errS_ok (P := P) (R := R) (by rw [← HX.out]; exact hx0)
  have HSD := Lib.hid hok.1
  have hnp : np ≤ 8 := by have := HM.out; omega
  have hnr : nr ≤ 8 := by have := HM2.out; omega
  clear hok
  subst hx0
  have K2 := Lib.hid (filled_w (w := w) (n := np) (x := -1) (by omega))
  go_wp2_with fail
  refine K2.out.mono ?_
  rintro en3 w3 ⟨M, rfl, hM, hTM, hb3⟩
  have HTM := Lib.hid hTM
  have HZ3 := Lib.hid hb3
  have HML := Lib.hid hM
  clear hM hTM hb3 K2
  have K2 := Lib.hid (filled_w (w := w3) (n := nr) (x := -1) (by omega))
  go_wp2_with fail
  refine K2.out.mono ?_
  rintro en4 w4 ⟨G, rfl, hG, hTG, hb4⟩
  have HTG := Lib.hid hTG
  have HZ4 := Lib.hid (below_trans HZ3.out hb4)
  have HTM4 := Lib.hid (HTM.out.below hb4)
  have HGM : Hid (M < G) := Lib.hid (by have := HTM.out.lt; omega)
  have HGL : Hid (w.heap.size ≤ G) := Lib.hid (by have := HML.out; have := HGM.out; omega)
  clear hG hTG hb4 K2 HTM
  have K2 := Lib.hid (filled_w (w := w4) (n := np) (x := 0) (by omega))
  go_wp2_with fail
  refine K2.out.mono ?_
  rintro en5 w5 ⟨N, rfl, hN, hTN, hb5⟩
  have HTN : Hid (BlkI w5 N (tabI np (fun _ => ((0 : Nat) : Int)))) := Lib.hid (by rw [tab_rep]; exact hTN)
  have HZ5 := Lib.hid (below_trans HZ4.out hb5)
  have HTM5 : Hid (BlkI w5 M (tabI np (fun _ => -1))) := Lib.hid (by rw [tab_rep]; exact HTM4.out.below hb5)
  have HTG5 : Hid (BlkI w5 G (tabI nr (fun _ => -1))) := Lib.hid (by rw [tab_rep]; exact HTG.out.below hb5)
  have HGN : Hid (G < N) := Lib.hid (by have := HTG.out.lt; omega)
  have HNL : Hid (w.heap.size ≤ N) := Lib.hid (by have := HGL.out; have := HGN.out; omega)
  clear hN hTN hb5 K2 HTM4 HTG HZ3 HZ4
  have KF : Hid (∀ (w' : World) (mt : Nat → Int) (c : Nat → Nat), Below w.heap.size w w' → BlkI w' M (tabI np mt) → BlkI w' N (tabI np (fun p => (c p : Int))) → (∀ p, c p ≤ (nthL P p).length) → Calls Try.prog 28 #[.slice a np ca, .slice (some ⟨M, 0, none⟩) np np, .slice (some ⟨N, 0, none⟩) np np] w' fun e w'' => (∃ x, e = .returned (.int .i64 x) ∧ FreeR P mt c x) ∧ Below w'.heap.size w' w'') := Lib.hid (fun w' mt c hb h1 h2 h3 => rfree_w (HP.out.below hb) HSP.out HM.out h1 h2 h3)
  go_wp2_with fail
  refine (KF.out _ _ _ HZ5.out HTM5.out HTN.out (fun _ => Nat.zero_le _)).mono ?_
  rintro en6 w6 ⟨⟨x, rfl, hFR⟩, hb6⟩
  have HFR := Lib.hid hFR
  have HZ6 := Lib.hid (below_trans HZ5.out hb6)
  have HTM6 := Lib.hid (HTM5.out.below hb6)
  have HTG6 := Lib.hid (HTG5.out.below hb6)
  have HTN6 := Lib.hid (HTN.out.below hb6)
  clear hFR hb6 HTM5 HTG5 HTN HZ5
  go_wp2_with fail
  go_loopg [10] (leftQ P (fun _ => 0) P.length) (fun k xv wr => ∃ (x : Int) (c : Nat → Nat) (h : Int → Int) (mt : Nat → Int), xv = .int .i64 x ∧ Hid (Inv P R c h) ∧ Hid (SameM P.length h mt) ∧ Hid (FreeR P mt c x) ∧ Hid (k = leftQ P c P.length) ∧ Hid (BlkI wr G (tabI nr (fun s => h (s : Int)))) ∧ Hid (BlkI wr M (tabI np mt)) ∧ Hid (BlkI wr N (tabI np (fun p => (c p : Int)))) ∧ Hid (Below w.heap.size w wr))
  case atStart => exact ⟨x, _, fun _ => -1, _, rfl, Lib.hid (Inv.start P R), Lib.hid (fun p _ => ⟨fun e => absurd rfl e, fun r hr => by dsimp only at hr; omega⟩), HFR, Lib.hid rfl, HTG6, HTM6, HTN6, HZ6⟩
  case round =>
    obtain ⟨x, c, h, mt, rfl, hIV, hSM, hFR, hgk, hT, hM, hN, hZ⟩ := hrel
    obtain ⟨w7, rfl⟩ : ∃ w7 : World, w7 = wr := ⟨_, rfl⟩
    clear HFR HTG6 HTM6 HTN6 HZ6
    by_cases hx0 : x = -1
    · subst hx0
      have t1 : decide ((-1 : Int) ≥ 0) = false := by rfl
      have HE : Hid (EndQ P R mt) := Lib.hid (by
        refine hIV.out.done HSD.out (fun p hp => ?_) hSM.out
        rcases hFR.out with ⟨_, e⟩ | ⟨q, e, _⟩
        · by_cases hmp : mt p = -1
          · left
            have h1 := hIV.out.len p
            have h2 : ¬ c p < (nthL P p).length := fun h3 => e p hp ⟨hmp, h3⟩
            omega
          · exact Or.inr ⟨_, (hSM.out p hp).1 hmp⟩
        · omega)
      go_wp2_with fail
      go_ret2
      refine ⟨⟨some ⟨M, 0, none⟩, np, tabI np mt, by rw [tab_len]; rfl, hM.out.ints (fun z hz => ?_), fun _ => ⟨mt, by rw [← HM.out], HE.out⟩, fun hne => absurd HX.out.symm hne⟩, hZ.out⟩
      obtain ⟨i, hi, e⟩ := mem_tab hz
      rcases HE.out.stable.own i (by have := HM.out; omega) with e1 | ⟨e1, _⟩
      · omega
      · have := (sides_P HSD.out i).2 _ e1
        have := HM2.out
        omega
    obtain ⟨q, rfl, hqn, HQM, HQC⟩ : ∃ q : Nat, x = (q : Int) ∧ q < np ∧ Hid (mt q = -1) ∧ Hid (c q < (nthL P q).length) := by
      rcases hFR.out with ⟨e, _⟩ | ⟨q, e, e1, e2, e3⟩
      · exact absurd e hx0
      · exact ⟨q, e, by have := HM.out; omega, Lib.hid e2, Lib.hid e3⟩
    have t1 : decide ((q : Int) ≥ 0) = true := by simp
    obtain ⟨B, off, a', c', ha, hI, hlc, hl9, hc⟩ := HP.out.at (i := q) (by have := HM.out; omega)
    subst ha
    have hl12 := HSP.out.nth q
    have e1 := hc w7 hZ.out
    obtain ⟨ln, hln⟩ : ∃ ln, ln = (nthL P q).length := ⟨_, rfl⟩
    obtain ⟨cq, hcq⟩ : ∃ cq, cq = c q := ⟨_, rfl⟩
    have e2 : w7.cell? ⟨N, q, none⟩ = some (.int .i64 (cq : Nat)) := by rw [hcq]; exact hN.out.cell (tab_get (f := fun p => (c p : Int)) hqn)
    have hcl3 : cq < ln := by rw [hcq, hln]; exact HQC.out
    obtain ⟨z, hz⟩ : ∃ z, (nthL P q)[cq]? = some z := ⟨_, List.getElem?_eq_getElem (by rw [← hln]; exact hcl3)⟩
    rw [← hln] at e1 hl12 hlc
    have HCQ := Lib.hid hcq
    obtain ⟨hz0, hz1⟩ := (sides_P HSD.out q).2 z (List.mem_of_getElem? hz)
    obtain ⟨r, rfl⟩ : ∃ r : Nat, z = (r : Int) := ⟨z.toNat, by omega⟩
    have hrn : r < nr := by have := HM2.out; omega
    have HZQ : Hid ((nthL P q)[c q]? = some (r : Int)) := Lib.hid (by rw [← HCQ.out]; exact hz)
    obtain ⟨Bq, oq, haq, hcell, -⟩ := hI cq _ hz
    subst haq
    have e3 : w7.cell? ⟨Bq, oq + cq, none⟩ = some (.int .i64 (r : Nat)) := cell_below hZ.out hcell
    obtain ⟨hv, hhv⟩ : ∃ hv, hv = h (r : Int) := ⟨_, rfl⟩
    have HHV := Lib.hid hhv
    obtain ⟨ab, hab⟩ : ∃ ab, ab = decide (scoreQ (nthL R r) (q : Int) < scoreQ (nthL R r) hv) := ⟨_, rfl⟩
    have HAB := Lib.hid hab
    obtain ⟨B2, off2, a2, c2, hb2, hI2, -, -, hc2⟩ := HR.out.at (i := r) (by have := HM2.out; omega)
    subst hb2
    have hl2 := HSR.out.nth r
    obtain ⟨lr, hlr⟩ : ∃ lr, lr = (nthL R r).length := ⟨_, rfl⟩
    have KA : Hid (∀ w', Below w.heap.size w w' → Calls Try.prog 16 #[.slice a2 lr c2, .int .i64 (q : Nat), .int .i64 hv] w' fun e w'' => e = .returned (.bool ab) ∧ w' = w'') := Lib.hid (fun w' hb => by
      rw [hab, hlr]
      exact rahead_w (hI2.below hb) rfl (by omega))
    rw [← hlr] at hc2 hl2
    have HC2 := Lib.hid hc2
    clear hz hz0 hz1 hcell hhv hab hI2 hc2 hlr hI hl9 hc hln hcq hx0
    go_wp2_with fail
    go_quiet (fail)
    obtain ⟨w8, hw8⟩ : ∃ w8, w8 = w7.drewN nq := ⟨_, rfl⟩
    rw [← hw8]
    have f2 : w8.cell? ⟨N, q, none⟩ = some (.int .i64 (cq : Nat)) := by rw [hw8]; exact e2
    have hT8 : Hid (BlkI w8 G (tabI nr (fun s => h (s : Int)))) := Lib.hid (by rw [hw8]; exact hT.out.drewN _)
    have hM8 : Hid (BlkI w8 M (tabI np mt)) := Lib.hid (by rw [hw8]; exact hM.out.drewN _)
    have hN8 : Hid (BlkI w8 N (tabI np (fun p => (c p : Int)))) := Lib.hid (by rw [hw8]; exact hN.out.drewN _)
    have hZ8 : Hid (Below w.heap.size w w8) := Lib.hid (by rw [hw8]; exact below_drewN hZ.out _)
    have z0 := hN8.out.frozen q
    clear e1 e2 e3 hT hM hN hZ hw8 nq
    obtain ⟨w9, hw9⟩ : ∃ w9, w9 = w8.setCell ⟨N, q, none⟩ (.int .i64 ((cq : Int) + 1)) := ⟨_, rfl⟩
    have hon : Only N w8 w9 := by rw [hw9]; exact (Only.refl N w8).setCell q _
    have hT9 : Hid (BlkI w9 G (tabI nr (fun s => h (s : Int)))) := Lib.hid (hT8.out.other hon (by have := HGN.out; omega))
    have hM9 : Hid (BlkI w9 M (tabI np mt)) := Lib.hid (hM8.out.other hon (by have := HGN.out; have := HGM.out; omega))
    have hN9 : Hid (BlkI w9 N (tabI np (fun p => (upC c q p : Int)))) := Lib.hid (by
      have h9 := hN8.out.setCell q ((c q + 1 : Nat) : Int)
      rw [tab_upC, ← HCQ.out] at h9
      rw [hw9]; exact h9)
    have hZ9 : Hid (Below w.heap.size w w9) := Lib.hid (below_only hZ8.out hon HNL.out)
    have HW9 := Lib.hid hw9.symm
    have d1 := HC2.out w9 hZ9.out
    have d2 : w9.cell? ⟨G, r, none⟩ = some (.int .i64 hv) := by rw [HHV.out]; exact hT9.out.cell (tab_get (f := fun s => h (s : Int)) hrn)
    have KB : Hid (∀ n, Calls Try.prog 16 #[.slice a2 lr c2, .int .i64 (q : Nat), .int .i64 hv] (w9.drewN n) fun e w'' => e = .returned (.bool ab) ∧ w9.drewN n = w'') := Lib.hid (fun n => KA.out _ (below_drewN hZ9.out n))
    clear hw9 hon hT8 hM8 hN8 hZ8
    go_wp2_with fail
    rw [HW9.out]
    clear HW9 f2 z0
    go_quiet ((go_at_call 16; exact quiet_left (KB.out _)))
    obtain ⟨wa, hwa⟩ : ∃ wa, wa = w9.drewN nq := ⟨_, rfl⟩
    rw [← hwa]
    have e6 : wa.cell? ⟨G, r, none⟩ = some (.int .i64 hv) := by rw [hwa]; exact d2
    have hTa : Hid (BlkI wa G (tabI nr (fun s => h (s : Int)))) := Lib.hid (by rw [hwa]; exact hT9.out.drewN _)
    have hMa : Hid (BlkI wa M (tabI np mt)) := Lib.hid (by rw [hwa]; exact hM9.out.drewN _)
    have hNa : Hid (BlkI wa N (tabI np (fun p => (upC c q p : Int)))) := Lib.hid (by rw [hwa]; exact hN9.out.drewN _)
    have hZa : Hid (Below w.heap.size w wa) := Lib.hid (by rw [hwa]; exact below_drewN hZ9.out _)
    have HLQ : Hid (leftQ P (upC c q) P.length < gk) := Lib.hid (by
      have h9 := leftQ_up (P := P) (c := c) (p := q) (n := P.length) (by have := HM.out; omega) HQC.out
      have := hgk.out
      omega)
    have HFQ : Hid (FreeQ h q) := Lib.hid (hSM.out.free (by have := HM.out; omega) HQM.out (fun s hs e => by
      have := hIV.out.outside HSD.out (r := s) (by omega)
      omega))
    have HQL : Hid (q < P.length) := Lib.hid (by have := HM.out; omega)
    clear d1 d2 hT9 hM9 hN9 hZ9 hwa nq KA KB
    cases ab with
    | false =>
      have HIV9 : Hid (Inv P R (upC c q) h) := Lib.hid (hIV.out.reject HSD.out HQL.out HFQ.out HZQ.out (by
        have h9 := HAB.out
        rw [HHV.out] at h9
        rw [atL_nat]
        simpa using h9.symm))
      clear e6
      go_wp2_with fail
      refine (KF.out _ _ _ hZa.out hMa.out hNa.out HIV9.out.len).mono ?_
      rintro en8 wb ⟨⟨x, rfl, hFR9⟩, hb8⟩
      have HFR9 := Lib.hid hFR9
      have hTb := Lib.hid (hTa.out.below hb8)
      have hMb := Lib.hid (hMa.out.below hb8)
      have hNb := Lib.hid (hNa.out.below hb8)
      have hZb := Lib.hid (below_trans hZa.out hb8)
      clear hFR9 hb8
      go_wp2_with fail
      go_roundg (leftQ P (upC c q) P.length)
      case measure => exact HLQ.out
      case rel => exact ⟨x, upC c q, h, mt, rfl, HIV9, hSM, HFR9, Lib.hid rfl, hTb, hMb, hNb, hZb⟩
    | true =>
      have hyes : scoreQ (atL R (r : Int)) (q : Int) < scoreQ (atL R (r : Int)) (h (r : Int)) := by
        have h9 := HAB.out
        rw [HHV.out] at h9
        rw [atL_nat]
        simpa using h9.symm
      have HIV9 : Hid (Inv P R (upC c q) (upH h (r : Int) (q : Int))) := Lib.hid (hIV.out.take HSD.out HQL.out HFQ.out HZQ.out hyes (hIV.out.score_le HSD.out _))
      have HSM9 : Hid (SameM P.length (upH h (r : Int) (q : Int)) (upM mt h (r : Int) q)) := Lib.hid (hSM.out.take hIV.out HFQ.out)
      clear hyes
      have hrg := hIV.out.range (r : Int)
      rw [← HHV.out] at hrg
      by_cases hv0 : hv = -1
      · subst hv0
        have t2 : decide ((-1 : Int) ≥ 0) = false := by rfl
        clear hrg
        go_wp2_with ((with_reducible refine at_store ?_); refine wpList_store_int rfl (.tmp 75) (.tmp 74) rfl G r rfl _ rfl _ hTa.out (by rw [tab_len]; exact hrn) ?_; intro wb hwb onwb; refine halt ?_)
        refine go_on ?_
        have hTb : Hid (BlkI wb G (tabI nr (fun s => upH h (r : Int) (q : Int) (s : Int)))) := Lib.hid (by
          have h9 := hwb
          rw [tab_upH] at h9
          exact h9)
        have hMb : Hid (BlkI wb M (tabI np mt)) := Lib.hid (hMa.out.other onwb (by have := HGM.out; omega))
        have hNb : Hid (BlkI wb N (tabI np (fun p => (upC c q p : Int)))) := Lib.hid (hNa.out.other onwb (by have := HGN.out; omega))
        have hZb : Hid (Below w.heap.size w wb) := Lib.hid (below_only hZa.out onwb HGL.out)
        clear hwb onwb hTa hMa hNa hZa e6
        go_wp2_with ((with_reducible refine at_store ?_); refine wpList_store_int rfl (.tmp 79) (.tmp 78) rfl M q rfl _ rfl _ hMb.out (by rw [tab_len]; exact hqn) ?_; intro we hwe onwe; refine halt ?_)
        refine go_on ?_
        have hMe : Hid (BlkI we M (tabI np (upM mt h (r : Int) q))) := Lib.hid (by
          have h9 := hwe
          rw [tab_upM0 HHV.out.symm] at h9
          exact h9)
        have hTe := Lib.hid (hTb.out.other onwe (by have := HGM.out; omega))
        have hNe := Lib.hid (hNb.out.other onwe (by have := HGN.out; have := HGM.out; omega))
        have hZe := Lib.hid (below_only hZb.out onwe HML.out)
        clear hwe onwe hTb hMb hNb hZb
        go_wp2_with fail
        refine (KF.out _ _ _ hZe.out hMe.out hNe.out HIV9.out.len).mono ?_
        rintro en8 wb ⟨⟨x, rfl, hFR9⟩, hb8⟩
        have HFR9 := Lib.hid hFR9
        have hTb := Lib.hid (hTe.out.below hb8)
        have hMb := Lib.hid (hMe.out.below hb8)
        have hNb := Lib.hid (hNe.out.below hb8)
        have hZb := Lib.hid (below_trans hZe.out hb8)
        clear hFR9 hb8 hTe hMe hNe hZe
        go_wp2_with fail
        go_roundg (leftQ P (upC c q) P.length)
        case measure => exact HLQ.out
        case rel => exact ⟨x, upC c q, upH h (r : Int) (q : Int), upM mt h (r : Int) q, rfl, HIV9, HSM9, HFR9, Lib.hid rfl, hTb, hMb, hNb, hZb⟩
      · obtain ⟨o, rfl⟩ : ∃ o : Nat, hv = (o : Int) := ⟨hv.toNat, by omega⟩
        have hon : o < np := by have := HM.out; omega
        have HOQ : Hid (o ≠ q) := Lib.hid (fun e => HFQ.out (r : Int) (by rw [← HHV.out, e]))
        have t2 : decide ((o : Int) ≥ 0) = true := by simp
        clear hrg
        go_wp2_with ((with_reducible refine at_store ?_); refine wpList_store_int rfl (.tmp 71) (.const (.int .i64 (-1))) rfl M o rfl _ rfl _ hMa.out (by rw [tab_len]; exact hon) ?_; intro wd hwd onwd; refine halt ?_)
        refine go_on ?_
        have hMd := Lib.hid hwd
        have hTd := Lib.hid (hTa.out.other onwd (by have := HGM.out; omega))
        have hNd := Lib.hid (hNa.out.other onwd (by have := HGN.out; have := HGM.out; omega))
        have hZd : Hid (Below w.heap.size w wd) := Lib.hid (below_only hZa.out onwd HML.out)
        clear hwd onwd hTa hMa hNa hZa e6
        go_wp2_with ((with_reducible refine at_store ?_); refine wpList_store_int rfl (.tmp 75) (.tmp 74) rfl G r rfl _ rfl _ hTd.out (by rw [tab_len]; exact hrn) ?_; intro wb hwb onwb; refine halt ?_)
        refine go_on ?_
        have hTb : Hid (BlkI wb G (tabI nr (fun s => upH h (r : Int) (q : Int) (s : Int)))) := Lib.hid (by
          have h9 := hwb
          rw [tab_upH] at h9
          exact h9)
        have hMb := Lib.hid (hMd.out.other onwb (by have := HGM.out; omega))
        have hNb : Hid (BlkI wb N (tabI np (fun p => (upC c q p : Int)))) := Lib.hid (hNd.out.other onwb (by have := HGN.out; omega))
        have hZb : Hid (Below w.heap.size w wb) := Lib.hid (below_only hZd.out onwb HGL.out)
        clear hwb onwb hTd hMd hNd hZd
        go_wp2_with ((with_reducible refine at_store ?_); refine wpList_store_int rfl (.tmp 79) (.tmp 78) rfl M q rfl _ rfl _ hMb.out (by rw [List.length_set, tab_len]; exact hqn) ?_; intro we hwe onwe; refine halt ?_)
        refine go_on ?_
        have hMe : Hid (BlkI we M (tabI np (upM mt h (r : Int) q))) := Lib.hid (by
          have h9 := hwe
          rw [tab_upM1 HHV.out.symm HOQ.out] at h9
          exact h9)
        have hTe := Lib.hid (hTb.out.other onwe (by have := HGM.out; omega))
        have hNe := Lib.hid (hNb.out.other onwe (by have := HGN.out; have := HGM.out; omega))
        have hZe := Lib.hid (below_only hZb.out onwe HML.out)
        clear hwe onwe hTb hMb hNb hZb
        go_wp2_with fail
        refine (KF.out _ _ _ hZe.out hMe.out hNe.out HIV9.out.len).mono ?_
        rintro en8 wb ⟨⟨x, rfl, hFR9⟩, hb8⟩
        have HFR9 := Lib.hid hFR9
        have hTb := Lib.hid (hTe.out.below hb8)
        have hMb := Lib.hid (hMe.out.below hb8)
        have hNb := Lib.hid (hNe.out.below hb8)
        have hZb := Lib.hid (below_trans hZe.out hb8)
        clear hFR9 hb8 hTe hMe hNe hZe
        go_wp2_with fail
        go_roundg (leftQ P (upC c q) P.length)
        case measure => exact HLQ.out
        case rel => exact ⟨x, upC c q, upH h (r : Int) (q : Int), upM mt h (r : Int) q, rfl, HIV9, HSM9, HFR9, Lib.hid rfl, hTb, hMb, hNb, hZb⟩
end Go.Proofs.Ytomnnickiljkgaa
