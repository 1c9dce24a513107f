/- HallTradeTrue answers true at every input: no members of a group gain by what they say in the place of their lists, if none of them loses. No conditions. -/
import Derived.Test.YtomnnickiljkgaaId
import Derived.Deep.DeepCutAuto
namespace Go.Proofs.Ytomnnickiljkgaa
open Go.ChangeShapes Go.WideShapes Go.ChangeAt Go.RowKit
theorem TrdA.len {W : List (List Int)} {l : List Int} (h : TrdA W l) : l.length ≤ 8 := by
  by_cases he : errT W = 0
  · obtain ⟨g, ρ, hc, rfl⟩ := h.1 he
    rw [tab_len]; exact (errT_ok he).1
  · rw [h.2 he]; exact Nat.zero_le _
theorem TrdA.full {W : List (List Int)} {l : List Int} (h : TrdA W l) (he : errT W = 0) : l.length = W.length := by
  obtain ⟨g, ρ, hc, rfl⟩ := h.1 he
  rw [tab_len]
theorem trd_truth {W V : List (List Int)} {G : Nat → Prop} {g o : List Int} (he : errT W = 0) (hf : errT V = 0) (hl : V.length = W.length) (hs : ∀ i, i < W.length → ¬ G i → nthL V i = nthL W i) (hg : TrdA W g) (ho : TrdA V o)
    (hn : ∀ i, i < W.length → G i → ¬ scoreQ (nthL W i) (nthI g i) < scoreQ (nthL W i) (nthI o i)) : ∀ i, i < W.length → nthI o i = nthI g i := by
  obtain ⟨g, ρ, hc, rfl⟩ := hg.1 he
  obtain ⟨g', ρ', hc', rfl⟩ := ho.1 hf
  have := CertT.truth (errT_ok he).2.2 hl hs hc hc' (fun i hi hG => by
    have h9 := hn i hi hG
    rw [tab_nth hi, tab_nth (by rw [hl]; exact hi)] at h9
    exact h9)
  intro i hi
  rw [tab_nth hi, tab_nth (by rw [hl]; exact hi), this i hi]
/-- Whether one is in the group of a number. -/
def bitG (z : Int) (i : Nat) : Bool := bits .and .i64 (z / 2 ^ i) 1 == 1
section
attribute [local go_sem ↓] Go.wp_at_zero Go.wp_at_succ
set_option maxRecDepth 100000 in
set_option maxHeartbeats 8000000 in
theorem ttrue_walk {w : World} {u v : Value} {a b : Option Addr} {W L : List (List Int)} {z : Int} {ca cb : Nat} (h : InL w u a W ca) (h2 : InL w v b L cb) (hz9 : -9223372036854775808 ≤ z ∧ z ≤ 9223372036854775807) :
    Calls Try.prog 7 #[u, v, .int .i64 z] w fun e w' => e = .returned (.bool true) ∧ Below w.heap.size w w' := by
  obtain ⟨rfl, hp9, hP⟩ := h
  obtain ⟨rfl, hr9, hR⟩ := h2
  have S1 := Lib.hid (small_w (c := ca) hP rfl hp9)
  have S2 := Lib.hid (small_w (c := cb) hR rfl hr9)
  have HP := Lib.hid hP
  have HR := Lib.hid hR
  obtain ⟨n, hn⟩ : ∃ x, x = W.length := ⟨_, rfl⟩
  obtain ⟨nr, hnr⟩ : ∃ x, x = L.length := ⟨_, rfl⟩
  have HN := Lib.hid hn
  have HNR := Lib.hid hnr
  rw [← hn] at S1 ⊢
  rw [← hnr] at S2 ⊢
  clear hp9 hP hr9 hR hn hnr
  go_enter Try.func7, Try.ntmps7
  go_wp2_with fail
  refine S1.out.mono ?_
  rintro en1 w1 ⟨⟨b1, rfl, hs1⟩, rfl⟩
  cases b1 with
  | false =>
    clear hs1
    go_wp2_with fail
    go_ret
    exact ⟨rfl, Below.refl _ _⟩
  | true =>
  have HS1 := Lib.hid (hs1 rfl)
  clear hs1 S1
  go_wp2_with fail
  refine S2.out.mono ?_
  rintro en1 w1 ⟨⟨b1, rfl, hs1⟩, rfl⟩
  cases b1 with
  | false =>
    clear hs1
    go_wp2_with fail
    go_ret
    exact ⟨rfl, Below.refl _ _⟩
  | true =>
  have HS2 := Lib.hid (hs1 rfl)
  clear hs1 S2
  have hn12 : n ≤ 12 := by rw [HN.out]; exact HS1.out.1
  have hnr12 : nr ≤ 12 := by rw [HNR.out]; exact HS2.out.1
  by_cases hnn : nr = n
  rotate_left
  · have t1 : ((nr : Int) == (n : Int)) = false := by simp; omega
    have t2 : ((nr : Int) != (n : Int)) = true := by simp; omega
    have t3 : (nr == n) = false := by simp; omega
    have t4 : (nr != n) = true := by simp; omega
    go_wp2_with fail
    go_ret
    exact ⟨rfl, Below.refl _ _⟩
  subst hnn
  have q1 : ((nr : Int) == (nr : Int)) = true := by simp
  have q2 : ((nr : Int) != (nr : Int)) = false := by simp
  have q3 : (nr == nr) = true := by simp
  have q4 : (nr != nr) = false := by simp
  by_cases hz0 : z < 0
  · have t1 : decide (z < 0) = true := by simp; omega
    go_wp2_with fail
    go_ret
    exact ⟨rfl, Below.refl _ _⟩
  have t1 : decide (z < 0) = false := by simp; omega
  by_cases hz1 : z ≥ 4096
  · have t2 : decide (4096 ≤ z) = true := by simp; omega
    have t3 : decide (z ≥ 4096) = true := by simp; omega
    go_wp2_with fail
    go_ret
    exact ⟨rfl, Below.refl _ _⟩
  have t2 : decide (4096 ≤ z) = false := by simp; omega
  have t3 : decide (z ≥ 4096) = false := by simp; omega
  go_wp2_with fail
  go_loopw [7, 8] (fun vv iv wr => ∃ (i : Nat) (va : Option Addr) (vc : Nat) (V : List (List Int)), i ≤ nr ∧ iv = .int .i64 i ∧ vv = .slice va nr vc ∧ Hid (RowsF wr va V) ∧ Hid (SmallL V) ∧ Hid (V.length = W.length) ∧ Hid (∀ j, nthL V j = if j < i ∧ bitG z j = true then nthL L j else nthL W j) ∧ Hid (Below w.heap.size w wr)) (fun _ iv _ => nr - (intOf iv).toNat)
  case atStart => exact ⟨0, a, ca, W, Nat.zero_le _, rfl, rfl, HP, HS1, Lib.hid rfl, Lib.hid (fun j => by rw [if_neg (fun e => absurd e.1 (Nat.not_lt_zero _))]), Lib.hid (Below.refl _ _)⟩
  case round =>
    obtain ⟨i, va, vc, V, hi, rfl, rfl, hV, hVS, hVL, hVN, hZ⟩ := hrel
    obtain ⟨wo, rfl⟩ : ∃ wo : World, wo = wr := ⟨_, rfl⟩
    by_cases hin : i < nr
    · have t0 : decide ((i : Int) < (nr : Int)) = true := by simp; omega
      obtain ⟨bt, hbt⟩ : ∃ x, x = bitG z i := ⟨_, rfl⟩
      have HBT := Lib.hid hbt
      obtain ⟨bz, hbz⟩ : ∃ x, x = bits .and .i64 (z / 2 ^ i) 1 := ⟨_, rfl⟩
      have hbz2 : bits .and .i64 (z / 2 ^ i) 1 = bz := hbz.symm
      have hbt2 : (bz == 1) = bt := by rw [hbt, hbz]; rfl
      clear hbt hbz
      cases bt with
      | true =>
        obtain ⟨B, off, a', c', ha, hIP, hlc, hl9, hc⟩ := HR.out.at (i := i) (by have := HNR.out; omega)
        subst ha
        have e1 := hc wo hZ.out
        have K1 := Lib.hid (with_w (c := vc) (d := c') (i := i) hV.out hVS.out.1 (HN.out.trans hVL.out.symm) (hIP.below hZ.out) rfl hlc hl9)
        obtain ⟨ln, hln⟩ : ∃ x, x = (nthL L i).length := ⟨_, rfl⟩
        rw [← hln] at K1 e1
        clear hc hIP hln hlc hl9
        go_wp2_with fail
        refine K1.out.mono ?_
        rintro en2 w2 ⟨⟨va2, vc2, rfl, hR2⟩, hb2⟩
        have HR2 := Lib.hid hR2
        have HS3 := Lib.hid (hVS.out.set (l := nthL L i) (HS2.out.nth i) i)
        have HL3 : Hid ((V.set i (nthL L i)).length = W.length) := Lib.hid (by rw [List.length_set]; exact hVL.out)
        have HN3 : Hid (∀ j, nthL (V.set i (nthL L i)) j = if j < i + 1 ∧ bitG z j = true then nthL L j else nthL W j) := Lib.hid (fun j => by
          rw [nthL_set j (by have := hVL.out; have := HN.out; omega)]
          by_cases e : j = i
          · subst e
            rw [if_pos rfl, if_pos ⟨Nat.lt_succ_self _, HBT.out.symm⟩]
          · rw [if_neg e, hVN.out j]
            by_cases h : j < i ∧ bitG z j = true
            · rw [if_pos h, if_pos ⟨by omega, h.2⟩]
            · rw [if_neg h, if_neg (fun k => h ⟨by omega, k.2⟩)])
        have HZ2 := Lib.hid (below_trans hZ.out hb2)
        clear hR2 hb2 K1 e1 hV hVS hVL hVN hZ
        go_wp2_with fail
        go_roundw
        case rel => exact ⟨i + 1, va2, vc2, _, by omega, by go_num, rfl, HR2, HS3, HL3, HN3, HZ2⟩
        case measure => simp [intOf]; omega
      | false =>
        have HN3 : Hid (∀ j, nthL V j = if j < i + 1 ∧ bitG z j = true then nthL L j else nthL W j) := Lib.hid (fun j => by
          rw [hVN.out j]
          by_cases h : j < i ∧ bitG z j = true
          · rw [if_pos h, if_pos ⟨by omega, h.2⟩]
          · rw [if_neg h, if_neg]
            rintro ⟨k1, k2⟩
            by_cases e : j = i
            · subst e
              rw [← HBT.out] at k2; cases k2
            · exact h ⟨by omega, k2⟩)
        clear hVN
        go_wp2_with fail
        go_roundw
        case rel => exact ⟨i + 1, va, vc, V, by omega, by go_num, rfl, hV, hVS, hVL, HN3, hZ⟩
        case measure => simp [intOf]; omega
    · have t0 : decide ((i : Int) < (nr : Int)) = false := by simp; omega
      have HVN : Hid (∀ j, j < W.length → ¬ bitG z j = true → nthL V j = nthL W j) := Lib.hid (fun j _ hb => by rw [hVN.out j, if_neg (fun e => hb e.2)])
      have K1 := Lib.hid (trade_w (ca := ca) (HP.out.below hZ.out) HS1.out HN.out)
      obtain ⟨er, her⟩ : ∃ x, x = errT W := ⟨_, rfl⟩
      have HER := Lib.hid her
      rw [← her] at K1
      clear her hVN
      go_wp2_with fail
      refine K1.out.mono ?_
      rintro en2 w2 ⟨⟨xa, xc, g, rfl, hI1, hA1⟩, hb2⟩
      have HI1 := Lib.hid hI1
      have HA1 := Lib.hid hA1
      have HZ2 := Lib.hid (below_trans hZ.out hb2)
      have K2 := Lib.hid (trade_w (ca := vc) (hV.out.below hb2) hVS.out (HN.out.trans hVL.out.symm))
      obtain ⟨ef, hef⟩ : ∃ x, x = errT V := ⟨_, rfl⟩
      have HEF := Lib.hid hef
      rw [← hef] at K2
      obtain ⟨n1, hn1⟩ : ∃ x, x = g.length := ⟨_, rfl⟩
      have HN1 := Lib.hid hn1
      rw [← hn1]
      clear hI1 hA1 hb2 hef hn1 K1
      go_wp2_with fail
      refine K2.out.mono ?_
      rintro en3 w3 ⟨⟨ya, yc, o, rfl, hI2, hA2⟩, hb3⟩
      have HI2 := Lib.hid hI2
      have HA2 := Lib.hid hA2
      have HZ3 := Lib.hid (below_trans HZ2.out hb3)
      have HG3 := Lib.hid (HI1.out.below hb3)
      obtain ⟨n2, hn2⟩ : ∃ x, x = o.length := ⟨_, rfl⟩
      have HN2 := Lib.hid hn2
      rw [← hn2]
      clear hI2 hA2 hb3 hn2 K2 HI1 HZ2 hV hZ
      have KF : Hid (∀ w' : World, Calls Try.prog 15 #[] w' fun e w'' => e = .returned (.bool true) ∧ Below w'.heap.size w' w'') := Lib.hid (fun w' => fixed_w)
      by_cases he0 : er = 0
      rotate_left
      · have p9 : (er == 0) = false := by simpa using he0
        have pa : (er != 0) = true := by simpa using he0
        go_wp2_with fail
        refine (KF.out _).mono ?_
        rintro en8 w8 ⟨rfl, hb8⟩
        have HZ8 := Lib.hid (below_trans HZ3.out hb8)
        clear hb8
        go_wp2_with fail
        go_ret
        exact ⟨rfl, HZ8.out⟩
      by_cases hf0 : ef = 0
      rotate_left
      · have p9 : (ef == 0) = false := by simpa using hf0
        have pa : (ef != 0) = true := by simpa using hf0
        subst he0
        go_wp2_with fail
        refine (KF.out _).mono ?_
        rintro en8 w8 ⟨rfl, hb8⟩
        have HZ8 := Lib.hid (below_trans HZ3.out hb8)
        clear hb8
        go_wp2_with fail
        go_ret
        exact ⟨rfl, HZ8.out⟩
      have HTR : Hid ((∀ i, i < W.length → bitG z i = true → ¬ scoreQ (nthL W i) (nthI g i) < scoreQ (nthL W i) (nthI o i)) → ∀ i, i < W.length → nthI o i = nthI g i) := Lib.hid (fun hn => trd_truth (G := fun i => bitG z i = true) (HER.out.symm.trans he0) (HEF.out.symm.trans hf0) hVL.out HVN.out HA1.out HA2.out hn)
      have hg9 : n1 = nr := by rw [HN1.out, HN.out]; exact HA1.out.full (HER.out.symm.trans he0)
      have ho9 : n2 = nr := by rw [HN2.out, HN.out, ← hVL.out]; exact HA2.out.full (HEF.out.symm.trans hf0)
      subst hg9 ho9 he0 hf0
      clear HVN
      go_wp2_with fail
      go_loopw [13, 14] (fun bv iv wr => ∃ (i : Nat) (bb : Bool), i ≤ n2 ∧ bv = .bool bb ∧ iv = .int .i64 i ∧ Hid (bb = true → ∃ j, j < n2 ∧ scoreQ (nthL W j) (nthI o j) < scoreQ (nthL W j) (nthI g j)) ∧ Hid (∀ j, j < i → bitG z j = true → ¬ scoreQ (nthL W j) (nthI g j) < scoreQ (nthL W j) (nthI o j)) ∧ Hid (Below w3.heap.size w3 wr)) (fun _ iv _ => n2 - (intOf iv).toNat)
      case atStart => exact ⟨0, false, Nat.zero_le _, rfl, rfl, Lib.hid (fun e => by cases e), Lib.hid (fun j hj => absurd hj (Nat.not_lt_zero _)), Lib.hid (Below.refl _ _)⟩
      case round =>
        obtain ⟨i, bb, hi, rfl, rfl, hbb, hbn, hY⟩ := hrel
        obtain ⟨wo, rfl⟩ : ∃ wo : World, wo = wr := ⟨_, rfl⟩
        have HZ7 := Lib.hid (below_trans HZ3.out hY.out)
        by_cases hin : i < n2
        rotate_left
        · have t0 : decide ((i : Int) < (n2 : Int)) = false := by simp; omega
          have hbf : bb = false := by
            cases bb with
            | false => rfl
            | true =>
              obtain ⟨j, hj, hlt⟩ := hbb.out rfl
              have := HTR.out (fun i hi => hbn.out i (by have := HN.out; omega)) j (by have := HN.out; omega)
              rw [this] at hlt
              omega
          subst hbf
          clear hbb hbn hY HZ3
          go_wp2_with fail
          refine (KF.out _).mono ?_
          rintro en8 w8 ⟨rfl, hb8⟩
          have HZ8 := Lib.hid (below_trans HZ7.out hb8)
          clear hb8
          go_wp2_with fail
          go_ret
          exact ⟨rfl, HZ8.out⟩
        have t0 : decide ((i : Int) < (n2 : Int)) = true := by simp; omega
        obtain ⟨B, off, a', c', ha, hIP, -, -, hc⟩ := HP.out.at (i := i) (by have := HN.out; omega)
        obtain ⟨zo, B2, off2, hzo, hvx, -, hc2⟩ := HI2.out.at (i := i) (by have := HN2.out; omega)
        obtain ⟨zg, B3, off3, hzg, hva, -, hc3⟩ := HG3.out.at (i := i) (by have := HN1.out; omega)
        subst ha hvx hva
        have e1 := hc wo HZ7.out
        have e2 := hc2 wo hY.out
        have e3 := hc3 wo hY.out
        have hl12 := HS1.out.nth i
        obtain ⟨ba, hba⟩ : ∃ x, x = decide (scoreQ (nthL W i) zo < scoreQ (nthL W i) zg) := ⟨_, rfl⟩
        obtain ⟨sa, hsa⟩ : ∃ x, x = decide (scoreQ (nthL W i) zg < scoreQ (nthL W i) zo) := ⟨_, rfl⟩
        have KA : Hid (∀ w', Below w.heap.size w w' → Calls Try.prog 16 #[.slice a' (nthL W i).length c', .int .i64 zo, .int .i64 zg] w' fun e w'' => e = .returned (.bool ba) ∧ w' = w'') := Lib.hid (fun w' hw' => by
          have h9 := rahead_w (c := c') (x := zo) (y := zg) (hIP.below hw') rfl (by omega)
          rw [← hba] at h9
          exact h9)
        have KB : Hid (∀ w', Below w.heap.size w w' → Calls Try.prog 16 #[.slice a' (nthL W i).length c', .int .i64 zg, .int .i64 zo] w' fun e w'' => e = .returned (.bool sa) ∧ w' = w'') := Lib.hid (fun w' hw' => by
          have h9 := rahead_w (c := c') (x := zg) (y := zo) (hIP.below hw') rfl (by omega)
          rw [← hsa] at h9
          exact h9)
        have HB1 : Hid ((bb || ba) = true → ∃ j, j < n2 ∧ scoreQ (nthL W j) (nthI o j) < scoreQ (nthL W j) (nthI g j)) := Lib.hid (fun e => by
          rw [Bool.or_eq_true] at e
          rcases e with e | e
          · exact hbb.out e
          · rw [e] at hba
            exact ⟨i, hin, by rw [nthI_some hzo, nthI_some hzg]; exact of_decide_eq_true hba.symm⟩)
        obtain ⟨bt, hbt⟩ : ∃ x, x = bitG z i := ⟨_, rfl⟩
        have HB2 : Hid ((bt && sa) = false → ∀ j, j < i + 1 → bitG z j = true → ¬ scoreQ (nthL W j) (nthI g j) < scoreQ (nthL W j) (nthI o j)) := Lib.hid (fun e j hj hb => by
          by_cases h : j < i
          · exact hbn.out j h hb
          · obtain rfl : j = i := by omega
            rw [hbt, hb, Bool.true_and] at e
            rw [e] at hsa
            rw [nthI_some hzo, nthI_some hzg]
            exact of_decide_eq_false hsa.symm)
        obtain ⟨bz, hbz⟩ : ∃ x, x = bits .and .i64 (z / 2 ^ i) 1 := ⟨_, rfl⟩
        have hbz2 : bits .and .i64 (z / 2 ^ i) 1 = bz := hbz.symm
        have hbt2 : (bz == 1) = bt := by rw [hbt, hbz]; rfl
        obtain ⟨ln, hln⟩ : ∃ x, x = (nthL W i).length := ⟨_, rfl⟩
        rw [← hln] at KA KB e1
        clear hc hc2 hc3 hzg hzo hIP hl12 hln hba hsa hbn hbt hbz HZ3
        go_wp2_with fail
        cases bt with
        | false =>
          go_quiet (fail)
          obtain ⟨w8, hw8⟩ : ∃ w8, w8 = wo.drewN nq := ⟨_, rfl⟩
          rw [← hw8]
          have HZ8 : Hid (Below w.heap.size w w8) := Lib.hid (by rw [hw8]; exact below_drewN HZ7.out _)
          have HY8 : Hid (Below w3.heap.size w3 w8) := Lib.hid (by rw [hw8]; exact below_drewN hY.out _)
          clear hw8 HZ7 hY e1 e2 e3
          go_wp2_with fail
          cases bb with
          | false =>
            go_quiet (fail)
            go_wp2_with fail
            go_roundw
            case rel => exact ⟨i + 1, _, by omega, rfl, by go_num, Lib.hid (fun e => by cases e), Lib.hid (by first | exact HB2.out rfl | simpa using HB2.out), Lib.hid (below_drewN HY8.out _)⟩
            case measure => simp [intOf]; omega
          | true =>
            go_quiet (fail)
            go_wp2_with fail
            go_roundw
            case rel => exact ⟨i + 1, _, by omega, rfl, by go_num, hbb, Lib.hid (by first | exact HB2.out rfl | simpa using HB2.out), Lib.hid (below_drewN HY8.out _)⟩
            case measure => simp [intOf]; omega
        | true =>
          go_quiet ((go_at_call 16; exact quiet_left (KB.out _ (below_drewN HZ7.out _))))
          obtain ⟨w8, hw8⟩ : ∃ w8, w8 = wo.drewN nq := ⟨_, rfl⟩
          rw [← hw8]
          have HZ8 : Hid (Below w.heap.size w w8) := Lib.hid (by rw [hw8]; exact below_drewN HZ7.out _)
          have HY8 : Hid (Below w3.heap.size w3 w8) := Lib.hid (by rw [hw8]; exact below_drewN hY.out _)
          have f1 : w8.cell? ⟨B, off + i, none⟩ = some (.slice a' ln c') := by rw [hw8]; exact e1
          have f2 : w8.cell? ⟨B2, off2 + i, none⟩ = some (.int .i64 zo) := by rw [hw8]; exact e2
          have f3 : w8.cell? ⟨B3, off3 + i, none⟩ = some (.int .i64 zg) := by rw [hw8]; exact e3
          clear hw8 HZ7 hY e1 e2 e3
          cases sa with
          | true =>
            go_wp2_with fail
            refine (KF.out _).mono ?_
            rintro en8 w8 ⟨rfl, hb8⟩
            have HZ8 := Lib.hid (below_trans HZ8.out hb8)
            clear hb8
            go_wp2_with fail
            go_ret
            exact ⟨rfl, HZ8.out⟩
          | false =>
          go_wp2_with fail
          cases bb with
          | false =>
            go_quiet ((go_at_call 16; exact quiet_left (KA.out _ (below_drewN HZ8.out _))))
            clear f1 f2 f3
            go_wp2_with fail
            go_roundw
            case rel => exact ⟨i + 1, _, by omega, rfl, by go_num, Lib.hid (by first | exact HB1.out | simpa using HB1.out), Lib.hid (by first | exact HB2.out rfl | simpa using HB2.out), Lib.hid (below_drewN HY8.out _)⟩
            case measure => simp [intOf]; omega
          | true =>
            go_quiet (fail)
            clear f1 f2 f3
            go_wp2_with fail
            go_roundw
            case rel => exact ⟨i + 1, _, by omega, rfl, by go_num, hbb, Lib.hid (by first | exact HB2.out rfl | simpa using HB2.out), Lib.hid (below_drewN HY8.out _)⟩
            case measure => simp [intOf]; omega
end

set_option maxRecDepth 100000 in
theorem hallTradeTrue_lifted (os : Os) (started : os.Started) (H : Type) (enc : TypeId × Value → H) :
    ReturnsInHanded {} Try.checked os 7 .any (Rows.hallTradeTrueSpec.pre6 enc Try.prog Try.f7 Rows.hallTradeTrueRow.domain false) (Rows.hallTradeTrueSpec.post enc Try.prog Try.f7 false true false false) := by
  refine returnsInHanded_of_change (C := Try.checked) own_knob started (by kernel_rfl) Try.func7
    (ChangeSpec.witness6 (enc := enc) (C := Try.checked) false ⟨#[], #[.slice none 0 0, .slice none 0 0, .int .i64 0], []⟩ 8 (by kernel_rfl) (by kernel_rfl) (by kernel_rfl) (by kernel_rfl)) ?_
  intro W base args ds gs before hval0 hW hcnd _
  have hval : ∀ (j : Nat) t v, Try.f7.params[j]? = some t → args[j]? = some v → Value.okWide Try.prog W .any base t v := hval0
  have hW' := hW
  obtain ⟨p, q, hA0, hV, rfl, hfz, hnd⟩ := hW
  have hA : DataW.TrodAll enc Try.prog W 0 (fun _ => true) true Try.f7.params.toList args.toList ds p := hA0
  rw [Try.params7] at hA hval
  obtain ⟨v0, vs0, d0, ds0, p0, q0, hargs, rfl, rfl, h0, r0⟩ := trodAll_cons hA
  obtain ⟨v1, vs1, d1, ds1, p1, q1, rfl, rfl, rfl, h1, r1⟩ := trodAll_cons r0
  obtain ⟨v2, vs2, d2, ds2, p2, q2, rfl, rfl, rfl, h2, r2⟩ := trodAll_cons r1
  obtain ⟨rfl, rfl, rfl⟩ := trodAll_nil r2
  obtain rfl : args = #[v0, v1, v2] := by cases args; simp_all
  obtain ⟨rfl, rfl⟩ := trodVars_none hV
  have k0 := h0
  have k1 := h1
  have k2 := h2
  have lt0 : ∀ x ∈ p0, x.block < W.heap.size := by obtain ⟨m, hm⟩ := k0; exact DataW.trod_lt m _ _ _ hm
  have lt1 : ∀ x ∈ p1, x.block < W.heap.size := by obtain ⟨m, hm⟩ := k1; exact DataW.trod_lt m _ _ _ hm
  have lt2 : ∀ x ∈ p2, x.block < W.heap.size := by obtain ⟨m, hm⟩ := k2; exact DataW.trod_lt m _ _ _ hm
  obtain ⟨a, P, ca, hx⟩ := lists_in h0 (okWide_slice Try.underlying22 (hval 0 22 v0 rfl rfl))
  obtain ⟨b, R, cb, hy⟩ := lists_in h1 (okWide_slice Try.underlying22 (hval 1 22 v1 rfl rfl))
  obtain ⟨z, rfl⟩ := okWide_int Try.underlying3 (hval 2 3 v2 rfl rfl)
  have hz : -9223372036854775808 ≤ z ∧ z ≤ 9223372036854775807 := by
    obtain ⟨fz, hf2⟩ := h2
    obtain ⟨y, e, hy⟩ := int_trod (v := .int .i64 z) (by simpa [Value.cells] using hf2)
    obtain rfl : z = y := by simpa using e
    exact hy
  clear hA0 hval0
  refine (ttrue_walk hx hy hz).mono fun e W' ⟨he, bel⟩ => ?_
  subst he
  exact ⟨_, rfl, _, _, _, [], _, [], hW', trodAll_mk1 (shut_bool Try.underlying4 _), (trodAll_cons_mk (Below.trod laid_out (by kernel_rfl) (of_decide_eq_true (by kernel_rfl)) k0 bel lt0) (trodAll_cons_mk (Below.trod laid_out (by kernel_rfl) (of_decide_eq_true (by kernel_rfl)) k1 bel lt1) (trodAll_cons_mk (Below.trod laid_out (by kernel_rfl) (of_decide_eq_true (by kernel_rfl)) k2 bel lt2) trodAll_mk0))), rfl, bel.frame _, fun h => by cases h⟩

theorem hallTradeTrue_holds : Rows.HallTradeTrueSaid :=
  OpenClaim.holds_of_wide 7 Try.f7 rfl rfl rfl rfl rfl rfl rfl ⟨rfl, rfl, rfl, rfl, rfl⟩ rfl rfl rfl rfl rfl (by kernel_rfl) Try.func7 (by kernel_rfl)
    (of_decide_eq_true (by kernel_rfl)) (by unfold Func.isWrapper; first | (rw [if_pos (by decide +kernel)]; kernel_rfl) | (rw [if_neg (by decide +kernel)]; exact ⟨rfl, rfl⟩))
    (fun os started H enc _ => hallTradeTrue_lifted os started H enc)
end Go.Proofs.Ytomnnickiljkgaa
