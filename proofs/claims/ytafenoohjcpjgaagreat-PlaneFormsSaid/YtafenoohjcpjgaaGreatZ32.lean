/- Several texts in one: Yg. -/
import Derived.Test.YtafenoohjcpjgaaGreatZ30
import Derived.Test.YtafenoohjcpjgaaGreatZ31
import Derived.Deep.RegionHeld3
import Derived.Deep.DrawnRows
/- Fixed of the reference. -/
namespace Go.Proofs.YtafenoohjcpjgaaGreat
open Go.RowKit
attribute [local go_sem ↓] Go.wp_at_zero Go.wp_at_succ

theorem okV_new {n : Int} {l : List Int} (h : okV n l = true) {i : Nat} {v : Int} (hv : l[i]? = some v) : (l.take i).contains v = false := by
  have hi := (List.getElem?_eq_some_iff.1 hv).1
  have h1 := List.all_eq_true.1 h i (by simpa using hi)
  rw [okAt_of hv] at h1
  simp only [Bool.and_eq_true, Bool.not_eq_true'] at h1
  exact h1.2
theorem bit_of {bs : List Int} (h : bs.any badB = false) {i : Nat} {z : Int} (hz : bs[i]? = some z) : z = 0 ∨ z = 1 := by
  have h1 := List.any_eq_false.1 h z (List.mem_of_getElem? hz)
  simp only [badB, Bool.and_eq_true, decide_eq_true_eq] at h1
  omega
theorem bitR_len {z : Int} (h : z = 0 ∨ z = 1) : lenQ (bitR z) ≤ 2 := by
  rcases h with rfl | rfl
  · exact len_nought9
  · exact len_one9
theorem decide_geq9 {a b : Nat} (h : a < b) : decide ((a : Int) ≥ (b : Int)) = false := by simp; omega
set_option maxRecDepth 100000 in
set_option maxHeartbeats 8000000 in
set_option linter.unusedSimpArgs false in
theorem rfixd_w {N m vc bc : Nat} {w : World} {v : Value} {P : Pm} {va ba : Option Addr} {l bs : List Int} (h : ProgF N w v P) (hrb : rightB2 P = true) (hN : N ≤ 500) (hN1 : 1 ≤ N) (hv1 : P.vars ≤ 160) (hr1 : P.rows.length ≤ 200) (hl : IntsF w va l) (hbs : IntsF w ba bs) (hm : m = l.length) (hlb : l.length = bs.length) (hm9 : m ≤ 160) (hvc : m ≤ vc) (hok : okV P.vars l = true) (hbit : bs.any badB = false) :
    Calls Tryz.prog 11 #[v, .slice va m vc, .slice ba m bc] w fun e w' => (∃ r, e = .returned (.tuple #[r, .int .i64 0]) ∧ ProgN (rkF (2 * N + 1)) w' w.heap.size r (fixP P l bs)) ∧ Below w.heap.size w w' := by
  have HRB := Lib.hid hrb
  have HP := Lib.hid h
  have KFX := Lib.hid (fun w' (hb : Below w.heap.size w w') => rfixP_w (h.below hb) hrb hN hv1 (by omega))
  have KR := Lib.hid (fun w' (hb : Below w.heap.size w w') => rright2_w (h.below hb) ⟨hv1, by omega, by have := right_goal hrb; omega, by have := right_goal hrb; omega⟩)
  rw [right_0 hrb] at KR
  have HS := Lib.hid h.small
  have HN : Hid (N ≤ 500) := Lib.hid hN
  have HI := Lib.hid hl
  have HIB := Lib.hid hbs
  have HM : Hid (m = l.length ∧ l.length = bs.length) := Lib.hid ⟨hm, hlb⟩
  have HOKV : Hid (∀ (i : Nat) (v : Int), l[i]? = some v → 0 ≤ v ∧ v < P.vars) := Lib.hid (fun i v hv => okV_at hok hv)
  have HOKB := Lib.hid hok
  have HBIT := Lib.hid hbit
  obtain ⟨fa, fc, ga, gc, ra, rc, rfl, -, -, hB, hG, hR⟩ := h
  have HBO := Lib.hid hB
  have HR := Lib.hid hR
  obtain ⟨z, hz⟩ : ∃ z, z = P.vars := ⟨_, rfl⟩
  obtain ⟨fn, hfn⟩ : ∃ n, n = P.free.length := ⟨_, rfl⟩
  obtain ⟨gn, hgn⟩ : ∃ n, n = P.goal.length := ⟨_, rfl⟩
  obtain ⟨rn, hrn⟩ : ∃ n, n = P.rows.length := ⟨_, rfl⟩
  rw [← hz] at HP KR ⊢
  rw [← hfn] at HP KR ⊢
  rw [← hgn] at HP hG KR ⊢
  rw [← hrn] at HP KR ⊢
  simp only [← hz, ← hfn, ← hgn, ← hrn] at KFX
  have HG := Lib.hid hG
  have HEQ := Lib.hid (And.intro hz (And.intro hfn (And.intro hgn hrn)))
  have HZF : Hid (z = (gn : Int) ∧ fn = gn ∧ 0 < gn ∧ gn ≤ 160 ∧ rn ≤ 200) := Lib.hid (by have := right_goal hrb; omega)
  obtain ⟨hzg, hfg, hg0, hg160, hr200⟩ := HZF.out
  clear hl hbs hm hlb hok hbit hN hB hR hG hz hfn hgn hrn hrb hv1 hr1
  subst hfg
  subst hzg
  obtain ⟨w1, hw1⟩ : ∃ w1, w1 = (w.alloc (Obj.cells #[Value.int .i64 (fn : Int), Value.slice fa fn fc, Value.slice ga fn gc, Value.slice ra rn rc] 26)).alloc (Obj.cells #[Value.int .i64 0, Value.slice none 0 0, Value.slice none 0 0, Value.slice none 0 0] 26) := ⟨_, rfl⟩
  have HB1 : Hid (Below w.heap.size w w1) := Lib.hid (by rw [hw1]; exact ((Below.refl _ _).alloc (Nat.le_refl _) _).alloc (by simp) _)
  have HX1 : Hid (w1.heap[w.heap.size]? = some (.cells #[Value.int .i64 (fn : Int), Value.slice fa fn fc, Value.slice ga fn gc, Value.slice ra rn rc] 26 (0, 0))) := Lib.hid (by rw [hw1]; exact heap_alloc2_old w _ _)
  have HO1 : Hid (w1.heap[w.heap.size + 1]? = some (.cells #[Value.int .i64 0, Value.slice none 0 0, Value.slice none 0 0, Value.slice none 0 0] 26 (0, 0))) := Lib.hid (by rw [hw1]; exact heap_alloc2_new w _ _)
  have HW1 := Lib.hid hw1.symm
  clear hw1
  have RX := Lib.hid (cells_later HX1.out)
  have hb1 := Below.refl w1.heap.size w1
  have x0 := RX.out 0 _ rfl _ hb1
  have x1 := RX.out 1 _ rfl _ hb1
  have x2 := RX.out 2 _ rfl _ hb1
  have x3 := RX.out 3 _ rfl _ hb1
  have HOKN : Hid (okV ((fn : Nat) : Int) l = true) := Lib.hid (by rw [HEQ.out.1]; exact HOKB.out)
  have HOKI : Hid (∀ (i : Nat) (v : Int), l[i]? = some v → 0 ≤ v ∧ v < (fn : Int)) := Lib.hid (fun i v hv => by rw [HEQ.out.1]; exact HOKV.out i v hv)
  have tnn : ((m : Int) != (m : Int)) = false := by simp
  have t400 : decide ((400 : Int) < (rn : Int) + (m : Int)) = false := by simp; omega
  have HVC := Lib.hid hvc
  have HN1 := Lib.hid hN1
  clear hN1
  go_enter Tryz.func11, Tryz.ntmps11
  go_wp2_with fail
  rw [HW1.out]
  refine (KR.out _ HB1.out).mono ?_
  rintro en2 w2 ⟨rfl, hb2⟩
  have HZ2 := Lib.hid hb2
  have x0 := RX.out 0 _ rfl _ hb2
  have x1 := RX.out 1 _ rfl _ hb2
  have x2 := RX.out 2 _ rfl _ hb2
  have x3 := RX.out 3 _ rfl _ hb2
  clear hb2
  go_wp2_with fail
  go_loopw [28] (fun iv wr => ∃ i : Nat, i ≤ m ∧ iv = .int .i64 i ∧ Hid (Below w1.heap.size w1 wr)) (fun iv _ => m - (intOf iv).toNat)
  case atStart => exact ⟨0, Nat.zero_le _, rfl, HZ2⟩
  case round =>
    obtain ⟨i, hi, rfl, hZ⟩ := hrel
    obtain ⟨wo, rfl⟩ : ∃ wo : World, wo = wr := ⟨_, rfl⟩
    by_cases hin : i < m
    · have t0 : decide ((i : Int) < (m : Int)) = true := by simp; omega
      obtain ⟨z, Bv, offv, hz, ha, hzb, hcv⟩ := HI.out.at (i := i) (by have := HM.out; omega)
      obtain ⟨bz, Bb, offb, hbz, hab, hzb2, hcb⟩ := HIB.out.at (i := i) (by have := HM.out; omega)
      obtain ⟨v, rfl⟩ : ∃ v : Nat, z = (v : Int) := ⟨z.toNat, by have := (HOKI.out i z hz).1; omega⟩
      have hvn : v < fn := by have := (HOKI.out i _ hz).2; omega
      have t1 : decide ((v : Int) < 0) = false := by simp
      have t2 := decide_geq9 hvn
      have t3 : decide ((fn : Int) ≤ (v : Int)) = false := by simp; omega
      subst ha
      subst hab
      have e1 := hcv wo (below_trans HB1.out hZ.out)
      have x0 := RX.out 0 _ rfl _ hZ.out
      have hiv : i ≤ vc := by have := HVC.out; omega
      have HCB := Lib.hid hcb
      have HBIT9 := Lib.hid (bit_of HBIT.out hbz)
      have KWI := Lib.hid (rwithin_w (w := wo) (c := vc) (v := (v : Int)) (m := i) (HI.out.below (below_trans HB1.out hZ.out)) (by have := HM.out; omega) (by omega))
      rw [okV_new HOKB.out hz] at KWI
      clear hcv hcb hz hbz
      go_wp2_with fail
      refine KWI.out.mono ?_
      rintro en4 w4 ⟨rfl, hb4⟩
      have HZ4 := Lib.hid (below_trans hZ.out hb4)
      have e2 := HCB.out w4 (below_trans HB1.out HZ4.out)
      clear hb4 e1 x0
      obtain ⟨bz', hbz'⟩ : ∃ b, b = bz := ⟨_, rfl⟩
      rw [← hbz'] at e2 HBIT9
      rcases HBIT9.out with h9 | h9
      · rw [h9] at e2
        clear hbz' h9 HBIT9
        go_wp2_with fail
        go_roundw
        case rel => exact ⟨i + 1, by omega, by go_num, HZ4⟩
        case measure => simp [intOf]; omega
      · rw [h9] at e2
        clear hbz' h9 HBIT9
        go_wp2_with fail
        go_roundw
        case rel => exact ⟨i + 1, by omega, by go_num, HZ4⟩
        case measure => simp [intOf]; omega
    · have t0 : decide ((i : Int) < (m : Int)) = false := by simp; omega
      obtain rfl : i = m := by omega
      have x0 := RX.out 0 _ rfl _ hZ.out
      have x1 := RX.out 1 _ rfl _ hZ.out
      have x2 := RX.out 2 _ rfl _ hZ.out
      have x3 := RX.out 3 _ rfl _ hZ.out
      go_wp2_with fail
      refine (KFX.out _ (below_trans HB1.out hZ.out)).mono ?_
      rintro en3 w3 ⟨⟨r3, rfl, hn3⟩, hb3⟩
      obtain ⟨fa', fc', ga', gc', oa, oc, mid, hq3, hBF, hGL, hRO, hm1, hm2, hm3, hm4⟩ := hn3
      rw [← HEQ.out.1, ← HEQ.out.2.1, ← HEQ.out.2.2.1, ← HEQ.out.2.2.2] at hq3
      subst hq3
      rw [← HEQ.out.2.2.1] at hGL hm3
      rw [← HEQ.out.2.2.2] at hRO
      have HRN : Hid (P.rows.length = rn) := Lib.hid HEQ.out.2.2.2.symm
      have HZ3 := Lib.hid (below_trans hZ.out hb3)
      have HBF := Lib.hid hBF
      have HGL := Lib.hid hGL
      have HRO := Lib.hid hRO
      have HM1 : Hid (w1.heap.size ≤ mid) := Lib.hid (Nat.le_trans hZ.out.size hm1)
      have HM2 := Lib.hid hm2
      have HM3 := Lib.hid hm3
      have HM4 := Lib.hid hm4
      clear hBF hGL hRO hm1 hm2 hm3 hm4 hb3 x0 x1 x2 x3 KFX KR
      go_wp2_with ((with_reducible refine at_store ?_); refine wpList_store_var rfl _ _ _ rfl w3.heap.size rfl _ rfl _ _ (heap_alloc_new _ _) info_prog9 rfl prog_one ?_; intro w4 h4 hon4; refine halt ?_)
      have hb4 : Below w3.heap.size w3 w4 := below_only ((Below.refl _ _).alloc (Nat.le_refl _) _) hon4 (Nat.le_refl _)
      obtain ⟨XB, hXB⟩ : ∃ x, x = w3.heap.size := ⟨_, rfl⟩
      have HXB : Hid (mid ≤ XB) := Lib.hid (by rw [hXB]; exact HM4.out)
      have HXW : Hid (w1.heap.size ≤ XB) := Lib.hid (by rw [hXB]; exact HZ3.out.size)
      have HK4 : Hid (∀ k, (Value.slice oa (rn + 0) oc).ownBlock = some k → k ≠ XB) := Lib.hid (fun k hk e => by have := (HRO.out.lt k hk).2; omega)
      rw [← hXB] at h4 ⊢
      have HG4 : Hid (w4.heap[XB]? = some (.cells #[Value.int .i64 (fn : Int), Value.slice fa' fn fc', Value.slice ga' fn gc', Value.slice oa (rn + 0) oc] 26 (0, 0))) := Lib.hid h4
      have HL4 : Hid (LRo (rkF (2 * N + 1)) w4 mid (.slice oa (rn + 0) oc) (P.rows ++ bndL fn l bs 0)) := Lib.hid (by
        rw [show bndL fn l bs 0 = [] from rfl, List.append_nil]
        exact HRO.out.below hb4)
      have HF4 := Lib.hid (HBF.out.below hb4)
      have HGL4 := Lib.hid ((rkF (2 * N + 1)).belowL HGL.out hb4)
      have HZ4 := Lib.hid (below_trans HZ3.out hb4)
      have HXL : Hid (XB < w4.heap.size) := Lib.hid (lt_of_block h4)
      clear h4 hon4 hb4 hXB
      refine go_on ?_
      go_wp2_with fail
      go_loopw [76] (fun iv wr => ∃ (j : Nat) (oa : Option Addr) (oc : Nat), j ≤ i ∧ iv = .int .i64 j ∧ Hid (wr.heap[XB]? = some (.cells #[Value.int .i64 (fn : Int), Value.slice fa' fn fc', Value.slice ga' fn gc', Value.slice oa (rn + j) oc] 26 (0, 0))) ∧ Hid (LRo (rkF (2 * N + 1)) wr mid (.slice oa (rn + j) oc) (P.rows ++ bndL fn l bs j)) ∧ Hid (BoolsF wr fa' P.free) ∧ Hid ((rkF (2 * N + 1)).L wr (.slice ga' fn gc') P.goal) ∧ Hid (Below w1.heap.size w1 wr) ∧ Hid (w4.heap.size ≤ wr.heap.size) ∧ Hid (∀ k, (Value.slice oa (rn + j) oc).ownBlock = some k → k ≠ XB)) (fun iv _ => i - (intOf iv).toNat)
      case atStart => exact ⟨0, _, _, Nat.zero_le _, rfl, HG4, HL4, HF4, HGL4, HZ4, Lib.hid (Nat.le_refl _), HK4⟩
      case round =>
        obtain ⟨j, oa, oc, hj, rfl, hG, hO, hF, hGL2, hZ2, hsz, hob⟩ := hrel
        obtain ⟨wo, rfl⟩ : ∃ wo : World, wo = wr := ⟨_, rfl⟩
        by_cases hjn : j < i
        · have t0 : decide ((j : Int) < (i : Int)) = true := by simp; omega
          obtain ⟨z, Bv, offv, hz, ha, hzb, hcv⟩ := HI.out.at (i := j) (by have := HM.out; omega)
          obtain ⟨bz, Bb, offb, hbz, hab, hzb2, hcb⟩ := HIB.out.at (i := j) (by have := HM.out; omega)
          obtain ⟨v, rfl⟩ : ∃ v : Nat, z = (v : Int) := ⟨z.toNat, by have := (HOKI.out j z hz).1; omega⟩
          have hvn : v < fn := by have := (HOKI.out j _ hz).2; omega
          subst ha
          subst hab
          have e1 := hcv wo (below_trans HB1.out hZ2.out)
          have HCBW : Hid (∀ w', Below w.heap.size w w' → w'.cell? ⟨Bb, offb + j, none⟩ = some (.int .i64 bz)) := Lib.hid hcb
          have HCB : Hid (∀ w', Below wo.heap.size wo w' → w'.cell? ⟨Bb, offb + j, none⟩ = some (.int .i64 bz)) := Lib.hid (fun w' hb => hcb w' (below_trans (below_trans HB1.out hZ2.out) hb))
          obtain ⟨bq, hbq⟩ : ∃ q, q = bitR bz := ⟨_, rfl⟩
          have HBR : Hid ((bndR fn l bs j).1 = unitQ fn v ∧ (bndR fn l bs j).2.2 = bq) := Lib.hid (by
            unfold bndR
            rw [hz, hbz, hbq]
            exact ⟨rfl, rfl⟩)
          have KA := Lib.hid (fun w' => unit_w (M := 2 * N + 1) (v := v) (w := w') (s := 0) (show fn ≤ 1000 by omega) hbq.symm hzb2.1 hzb2.2 (by have := HN1.out; omega) (by have := HN.out; omega) (by rw [hbq]; have := bitR_len (bit_of HBIT.out hbz); have := HN1.out; omega))
          have RY := Lib.hid (cells_later hG.out)
          have RXW := Lib.hid (fun w' (hb : Below wo.heap.size wo w') => RX.out 0 _ rfl w' (below_trans hZ2.out hb))
          have hz : Below wo.heap.size wo wo.drew := below_drewN (Below.refl _ _) 1
          clear hcv hcb hbz hbq
          go_wp2_with fail
          refine wp_region_to 13 (fun w' => w'.cell? ⟨w.heap.size, 0, none⟩ = some (.int .i64 (fn : Nat)) ∧ w'.cell? ⟨XB, 3, none⟩ = some (.slice oa (rn + j) oc) ∧ w'.cell? ⟨Bb, offb + j, none⟩ = some (.int .i64 bz)) (by kernel_rfl) (by (try dsimp only); refine ⟨?_, ?_, ?_⟩ <;> (first | exact RY.out 3 _ rfl _ (by assumption) | exact RXW.out _ (by assumption) | exact HCB.out _ (by assumption))) (fun hHeld => ?_)
          refine to_take (i := 0) (oi := _) (v := ?_) rfl (by kernel_rfl) (by kernel_rfl) (by kernel_rfl) (fun _ _ _ h => h) (by kernel_rfl) (by decide) (Or.inl ⟨by kernel_rfl, ?_⟩) (by assumption) ?_
          rotate_left
          · intro w hSw
            (try dsimp only at hSw)
            go_simp
            try with_reducible rfl
          try simp only [Act.put, List.getElem_toArray, List.getElem_cons_zero, List.getElem_cons_succ, List.setIfInBounds_toArray, List.set_cons_zero, List.set_cons_succ]
          refine to_take (i := 1) (oi := _) (v := ?_) rfl (by kernel_rfl) (by kernel_rfl) (by kernel_rfl) (fun _ _ _ h => h) (by kernel_rfl) (by decide) (Or.inl ⟨by kernel_rfl, ?_⟩) (by assumption) ?_
          rotate_left
          · intro w hSw
            (try dsimp only at hSw)
            go_simp
            try with_reducible rfl
          try simp only [Act.put, List.getElem_toArray, List.getElem_cons_zero, List.getElem_cons_succ, List.setIfInBounds_toArray, List.set_cons_zero, List.set_cons_succ]
          refine to_take (i := 2) (oi := _) (v := ?_) rfl (by kernel_rfl) (by kernel_rfl) (by kernel_rfl) (fun _ _ _ h => h) (by kernel_rfl) (by decide) (Or.inl ⟨by kernel_rfl, ?_⟩) (by assumption) ?_
          rotate_left
          · intro w hSw
            (try dsimp only at hSw)
            go_simp
            try with_reducible rfl
          try simp only [Act.put, List.getElem_toArray, List.getElem_cons_zero, List.getElem_cons_succ, List.setIfInBounds_toArray, List.set_cons_zero, List.set_cons_succ]
          refine to_take (i := 3) (oi := _) (v := ?_) rfl (by kernel_rfl) (by kernel_rfl) (by kernel_rfl) (fun _ _ _ h => h) (by kernel_rfl) (by decide) (Or.inl ⟨by kernel_rfl, ?_⟩) (by assumption) ?_
          rotate_left
          · intro w hSw
            (try dsimp only at hSw)
            go_simp
            try with_reducible rfl
          try simp only [Act.put, List.getElem_toArray, List.getElem_cons_zero, List.getElem_cons_succ, List.setIfInBounds_toArray, List.set_cons_zero, List.set_cons_succ]
          refine to_take (i := 4) (oi := _) (v := ?_) rfl (by kernel_rfl) (by kernel_rfl) (by kernel_rfl) (fun _ _ _ h => h) (by kernel_rfl) (by decide) (Or.inl ⟨by kernel_rfl, ?_⟩) (by assumption) ?_
          rotate_left
          · intro w hSw
            (try dsimp only at hSw)
            go_simp
            try with_reducible rfl
          try simp only [Act.put, List.getElem_toArray, List.getElem_cons_zero, List.getElem_cons_succ, List.setIfInBounds_toArray, List.set_cons_zero, List.set_cons_succ]
          refine to_take (i := 5) (oi := _) (v := ?_) rfl (by kernel_rfl) (by kernel_rfl) (by kernel_rfl) (fun _ _ _ h => h) (by kernel_rfl) (by decide) (Or.inl ⟨by kernel_rfl, ?_⟩) (by assumption) ?_
          rotate_left
          · intro w hSw
            (try dsimp only at hSw)
            go_simp
            try with_reducible rfl
          try simp only [Act.put, List.getElem_toArray, List.getElem_cons_zero, List.getElem_cons_succ, List.setIfInBounds_toArray, List.set_cons_zero, List.set_cons_succ]
          refine to_take (i := 6) (oi := _) (v := ?_) rfl (by kernel_rfl) (by kernel_rfl) (by kernel_rfl) (fun _ _ _ h => h) (by kernel_rfl) (by decide) (Or.inl ⟨by kernel_rfl, ?_⟩) (by assumption) ?_
          rotate_left
          · intro w hSw
            (try dsimp only at hSw)
            go_simp
            try with_reducible rfl
          try simp only [Act.put, List.getElem_toArray, List.getElem_cons_zero, List.getElem_cons_succ, List.setIfInBounds_toArray, List.set_cons_zero, List.set_cons_succ]
          refine to_take (i := 7) (oi := _) (v := ?_) rfl (by kernel_rfl) (by kernel_rfl) (by kernel_rfl) (fun _ _ _ h => h) (by kernel_rfl) (by decide) (Or.inl ⟨by kernel_rfl, ?_⟩) (by assumption) ?_
          rotate_left
          · intro w hSw
            (try dsimp only at hSw)
            go_simp
            try with_reducible rfl
          try simp only [Act.put, List.getElem_toArray, List.getElem_cons_zero, List.getElem_cons_succ, List.setIfInBounds_toArray, List.set_cons_zero, List.set_cons_succ]
          refine to_take (i := 8) (oi := _) (v := ?_) rfl (by kernel_rfl) (by kernel_rfl) (by kernel_rfl) (fun _ _ _ h => h) (by kernel_rfl) (by decide) (Or.inl ⟨by kernel_rfl, ?_⟩) (by assumption) ?_
          rotate_left
          · intro w hSw
            (try dsimp only at hSw)
            go_simp
            try with_reducible rfl
          try simp only [Act.put, List.getElem_toArray, List.getElem_cons_zero, List.getElem_cons_succ, List.setIfInBounds_toArray, List.set_cons_zero, List.set_cons_succ]
          refine to_ready (rs := [9]) (by kernel_rfl) (by simp) (AllTo.cons (o := _) rfl (fun K hK => ?_) AllTo.nil)
          go_simp
          refine (KA.out _).mono ?_
          rintro en7 w7 ⟨⟨base7, ar7, rc7, bb7, a7, n7, c7, i7, j7, k7, rfl, hl7, hf7, hn7⟩, hb7⟩
          have hn7 : ∀ k, (Value.slice ar7 fn rc7).ownBlock = some k → wo.heap.size ≤ k := fun k hk => Nat.le_trans hz.size (Nat.le_trans hn7 (hl7.lt k hk).1)
          have hlk7 : ∀ k, (Value.slice ar7 fn rc7).ownBlock = some k → k < w7.heap.size := fun k hk => (hl7.lt k hk).2
          have hz := below_trans hz hb7
          try go_wp2_with fail
          refine hK.out _ _ (fun _ => ?_) (fun hHeld => ?_)
          · (try dsimp only); refine ⟨?_, ?_, ?_⟩ <;> (first | exact RY.out 3 _ rfl _ (by assumption) | exact RXW.out _ (by assumption) | exact HCB.out _ (by assumption))
          replace hHeld := hHeld (by decide)
          clear hK K
          try simp only [Act.put, List.getElem_toArray, List.getElem_cons_zero, List.getElem_cons_succ, List.setIfInBounds_toArray, List.set_cons_zero, List.set_cons_succ]
          refine to_ready (rs := [10]) (by kernel_rfl) (by simp) (AllTo.cons (o := _) rfl (fun K hK => ?_) AllTo.nil)
          go_simp
          obtain ⟨w8, hw8⟩ : ∃ w', w' = w7.alloc (Obj.cells #[Value.slice ar7 fn rc7, Value.int .i64 0, Value.bool bb7, Value.slice a7 n7 c7, Value.slice i7 j7 k7] 45) := ⟨_, rfl⟩
          have hb8 : Below w7.heap.size w7 w8 := by rw [hw8]; exact (Below.refl _ _).alloc (Nat.le_refl _) _
          have hr8 : w8.heap[w7.heap.size]? = some (.cells #[Value.slice ar7 fn rc7, Value.int .i64 0, Value.bool bb7, Value.slice a7 n7 c7, Value.slice i7 j7 k7] 45 (0, 0)) := by rw [hw8]; exact heap_alloc_new w7 _
          rw [← hw8]
          clear hw8
          have hz := below_trans hz hb8
          have hl8 := hl7.below hb8
          have hf8 := hf7.below hb8
          refine hK.out _ _ (fun _ => ?_) (fun hHeld => ?_)
          · (try dsimp only); refine ⟨?_, ?_, ?_⟩ <;> (first | exact RY.out 3 _ rfl _ (by assumption) | exact RXW.out _ (by assumption) | exact HCB.out _ (by assumption))
          replace hHeld := hHeld (by decide)
          clear hK K
          try simp only [Act.put, List.getElem_toArray, List.getElem_cons_zero, List.getElem_cons_succ, List.setIfInBounds_toArray, List.set_cons_zero, List.set_cons_succ]
          refine to_ready (rs := [11]) (by kernel_rfl) (by simp) (AllTo.cons (o := _) rfl (fun K hK => ?_) AllTo.nil)
          rw [if_pos (by kernel_rfl)]
          have HO8 := hO.out.below hz
          have hlt8 := hO.out.lt
          have hmo : mid ≤ wo.heap.size := Nat.le_trans HXB.out (Nat.le_trans (Nat.le_of_lt HXL.out) hsz.out)
          refine oper_push_row (K := (rkF (2 * N + 1))) _ _ rfl mid (Value.slice oa (rn + j) oc) (P.rows ++ bndL fn l bs j) rfl HO8 w7.heap.size 1 ar7 fn rc7 bb7 a7 i7 n7 c7 j7 k7 (bndR fn l bs j) rfl hr8 (by rw [show (bndR fn l bs j).1 = unitQ fn v from HBR.out.1]; exact ⟨_, hl8⟩) (by rw [show (bndR fn l bs j).2.2 = bq from HBR.out.2]; exact hf8) (fun k hk => ⟨fun e => by have h1 := hn7 k hk; have h2 := (hlt8 k e).2; omega, Nat.lt_of_lt_of_le (hlk7 k hk) hb8.size, by have h1 := hn7 k hk; omega⟩) (by rw [List.length_append, bndL_len]; have := HRN.out; omega) (Nat.le_trans hmo hz.size) ?_
          intro v9 w9 hown9 hg9 hbel9 hat9
          rw [List.append_assoc, bndL_succ] at hown9
          have hB9 : Below mid wo w9 := hbel9 wo (hz.mono hmo)
          have HX9 := (hg9.block _ (Nat.lt_of_lt_of_le (lt_of_block hG.out) hz.size) (fun e => hob.out _ e.symm rfl)).trans ((hz.block _ (lt_of_block hG.out)).trans hG.out)
          have HZ9 : Below w1.heap.size w1 w9 := hZ2.out.trans (hB9.mono HM1.out)
          have HF9 := hF.out.belowN HM2.out hB9
          have HL9 := (rkF (2 * N + 1)).keepL ((rkF (2 * N + 1)).belowL hGL2.out hz) HO8.clean hg9 (fun g hg e => by have h1 := HM3.out g hg; have h2 := (hlt8 g e).1; omega)
          have HS9 := Nat.le_trans hsz.out (Nat.le_trans hz.size hg9.size)
          obtain ⟨na, nc, hv9⟩ := hown9.form
          rw [List.length_append, bndL_len, HRN.out, ← Nat.add_assoc] at hv9
          subst hv9
          have HOB9 : ∀ k, (Value.slice na (rn + j + 1) nc).ownBlock = some k → k ≠ XB := fun k hk => by
            rcases hat9 with e4 | e4
            · rw [e4] at hk; exact hob.out k hk
            · rw [e4] at hk
              have h1 := Option.some.inj hk
              have h2 := Nat.le_trans hsz.out hz.size
              have h3 := HXL.out
              omega
          refine hK.out _ _ (fun _ => ?_) (fun hHeld => ?_)
          · (try dsimp only); refine ⟨?_, ?_, ?_⟩ <;> (first | exact cells_later HX9 3 _ rfl _ (Below.refl _ _) | exact RX.out 0 _ rfl _ HZ9 | exact HCBW.out _ (below_trans HB1.out HZ9))
          replace hHeld := hHeld (by decide)
          clear hK K
          try simp only [Act.put, List.getElem_toArray, List.getElem_cons_zero, List.getElem_cons_succ, List.setIfInBounds_toArray, List.set_cons_zero, List.set_cons_succ]
          refine to_take (i := 12) (oi := _) (v := ?_) rfl (by kernel_rfl) (by kernel_rfl) (by kernel_rfl) (fun _ _ _ h => h) (by kernel_rfl) (by decide) (Or.inl ⟨by kernel_rfl, ?_⟩) (by assumption) ?_
          rotate_left
          · intro w hSw
            (try dsimp only at hSw)
            go_simp
            try with_reducible rfl
          try simp only [Act.put, List.getElem_toArray, List.getElem_cons_zero, List.getElem_cons_succ, List.setIfInBounds_toArray, List.set_cons_zero, List.set_cons_succ]
          refine to_ready (rs := [13]) (by kernel_rfl) (by simp) (AllTo.cons (o := _) rfl (fun K hK => ?_) AllTo.nil)
          have g3 := cells_later HX9 3 _ rfl _ (Below.refl _ _)
          have g4 := frozen_of_row _ _ 3 _ _ HX9
          go_simp
          refine hK.out _ _ (fun h => absurd rfl h) (fun _ => ?_)
          clear hK K
          try simp only [Act.put, List.getElem_toArray, List.getElem_cons_zero, List.getElem_cons_succ, List.setIfInBounds_toArray, List.set_cons_zero, List.set_cons_succ]
          refine to_done (by kernel_rfl) ?_ _
          have HON := set3_only w9 XB (Value.slice na (rn + j + 1) nc)
          have HG10 := Lib.hid (set3_row HX9 (v := Value.slice na (rn + j + 1) nc))
          have HO10 := Lib.hid (hown9.otherT (blk_rkF _) HX9 (by decide) (by decide) prog_cells HON)
          have HF10 := Lib.hid (HF9.other HX9 prog_nobool HON)
          have HL10 := Lib.hid ((rkF (2 * N + 1)).otherL HL9 HX9 prog_cells HON (fun g hg e => by have h1 := HM3.out g hg; have h2 := HXB.out; omega))
          have HZ10 := Lib.hid (below_only HZ9 HON HXW.out)
          have HS10 : Hid (w4.heap.size ≤ (w9.setCell ⟨XB, 3, none⟩ (Value.slice na (rn + j + 1) nc)).heap.size) := Lib.hid (by rw [HON.size]; exact HS9)
          have HOB10 := Lib.hid HOB9
          clear HON HX9 HF9 HL9 HZ9 HS9 HOB9 hB9 hown9
          go_wp2_with fail
          go_roundw
          case rel => exact ⟨j + 1, _, _, by omega, by go_num, HG10, HO10, HF10, HL10, HZ10, HS10, HOB10⟩
          case measure => simp [intOf]; omega
        · have t0 : decide ((j : Int) < (i : Int)) = false := by simp; omega
          obtain rfl : j = i := by omega
          have HR9 := (hZ2.out.block _ (lt_of_block HO1.out)).trans HO1.out
          have hlow : w.heap.size + 1 < mid := Nat.lt_of_lt_of_le (lt_of_block HO1.out) HM1.out
          have g0 := cells_later hG.out 0 _ rfl _ (Below.refl _ _)
          have g1 := cells_later hG.out 1 _ rfl _ (Below.refl _ _)
          have g2 := cells_later hG.out 2 _ rfl _ (Below.refl _ _)
          have g3 := cells_later hG.out 3 _ rfl _ (Below.refl _ _)
          go_wp2_with ((with_reducible refine at_store ?_); refine wpList_store_var rfl _ _ _ rfl (w.heap.size + 1) rfl _ rfl _ _ HR9 info_prog9 rfl prog_one ?_; intro w7 h7 hon7; refine halt ?_)
          refine go_on ?_
          have HO7 := hO.out.other HR9 prog_cells hon7 hlow
          have HF7 := hF.out.other HR9 prog_nobool hon7
          have HL7 := (rkF (2 * N + 1)).otherL hGL2.out HR9 prog_cells hon7 (fun g hg e => by obtain ⟨cs, h1⟩ := rkF_blk hGL2.out g hg; rw [e, HR9] at h1; simp at h1)
          go_wp2_with fail
          refine bodyPost_ret (results_row_tmp rfl _ _ (w.heap.size + 1) _ _ _ _ rfl h7 Tryz.underlying26 rfl info_prog9) rfl ⟨⟨_, rfl, fa', fc', ga', gc', oa, oc, mid, ?_, HF7, ?_, ?_, Nat.le_trans (by omega) (Nat.le_of_lt hlow), HM2.out, ?_, by rw [hon7.size]; exact Nat.le_trans HXB.out (Nat.le_trans (Nat.le_of_lt HXL.out) hsz.out)⟩, ?_⟩
          · show _ = Value.agg #[.int .i64 P.vars, .slice fa' P.free.length fc', .slice ga' P.goal.length gc', .slice oa (P.rows ++ bndL P.vars.toNat l bs l.length).length oc]
            rw [List.length_append, bndL_len, ← HEQ.out.1, ← HEQ.out.2.1, ← HEQ.out.2.2.1, ← HEQ.out.2.2.2, ← HM.out.1]
          · show (rkF (2 * N + 1)).L _ (.slice ga' P.goal.length gc') P.goal
            rw [← HEQ.out.2.2.1]
            exact HL7
          · show LRo (rkF (2 * N + 1)) _ mid (.slice oa (P.rows ++ bndL P.vars.toNat l bs l.length).length oc) (P.rows ++ bndL P.vars.toNat l bs l.length)
            rw [List.length_append, bndL_len, ← HEQ.out.1, ← HEQ.out.2.2.2, ← HM.out.1, Int.toNat_natCast]
            exact HO7
          · show ∀ g, (Value.slice ga' P.goal.length gc').ownBlock = some g → g < mid
            rw [← HEQ.out.2.2.1]
            exact HM3.out
          · exact below_only (below_trans HB1.out hZ2.out) hon7 (Nat.le_succ _)
end Go.Proofs.YtafenoohjcpjgaaGreat
