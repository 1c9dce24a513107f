/- mayShare: the walk. -/
import Derived.Test.YtomnnickiljkgaaIj
namespace Go.Proofs.Ytomnnickiljkgaa
open Go.RowKit
attribute [local go_sem ↓] Go.wp_at_zero Go.wp_at_succ
set_option maxRecDepth 100000 in
set_option maxHeartbeats 8000000 in
theorem mayShare_w {a b : Option Addr} {W : List (List Int)} {gl : List Int} {g : Nat → Nat} {n ca cb : Nat} (hn : n = W.length) (hn8 : n ≤ 8) (hW : AllT W) (hg : gl = tabI n (fun i => ((g i : Nat) : Int))) (hgr : ∀ i, i < n → g i < n)
    (z : Nat) : ∀ (w : World) (t : Nat) (gb : Bool), RowsF w a W → IntsF w b gl → z < 256 → t < 256 → (∀ i, i < 8 → z.testBit i = true → i < n) →
    Calls Try.prog 45 #[.slice a n ca, .slice b n cb, .int .i64 z, .int .i64 t, .bool gb] w fun e w' => e = .returned (.bool (shareB W g (memL 8 (fun i => z.testBit i)) (fun y => t.testBit y) gb)) ∧ Below w.heap.size w w' := by
  induction z using Nat.strongRecOn with
  | _ z ih =>
  intro w t gb hP hG hz ht hzn
  by_cases hz0 : z = 0
  · have t1 : ((z : Int) == 0) = true := by simp; omega
    have hr : shareB W g (memL 8 (fun i => z.testBit i)) (fun y => t.testBit y) gb = gb := by rw [mem_zero hz0, shareB]
    rw [hr]
    clear hP hG hr ih
    go_enter Try.func45, Try.ntmps45
    go_wp2_with fail
    go_ret
    exact ⟨rfl, Below.refl _ _⟩
  have t1 : ((z : Int) == 0) = false := by simp; omega
  obtain ⟨v, hv8, hcl, hmem⟩ := mem_next hz hz0
  have hbv : z.testBit v = true := (memL_mem.1 (by rw [hmem]; exact List.mem_cons_self ..)).2
  have hvn : v < n := hzn v hv8 hbv
  have hmi : (memI 8 z)[0]? = some (v : Int) := by unfold memI; rw [hmem]; rfl
  have HSH : Hid ((∃ x, x < W.length ∧ scoreQ (nthL W v) (x : Int) ≤ scoreQ (nthL W v) (g v : Int) ∧ tryB W g z v t gb x = true) → shareB W g (memL 8 (fun i => z.testBit i)) (fun y => t.testBit y) gb = true) := Lib.hid (fun ⟨x, h1, h2, h3⟩ => share_yes (by omega) ht hmem h1 h2 h3)
  have HSN : Hid ((∀ x, x < W.length → scoreQ (nthL W v) (x : Int) ≤ scoreQ (nthL W v) (g v : Int) → tryB W g z v t gb x = false) → shareB W g (memL 8 (fun i => z.testBit i)) (fun y => t.testBit y) gb = false) := Lib.hid (fun h => share_no (by omega) ht hmem h)
  obtain ⟨sh, hsh⟩ : ∃ x, x = shareB W g (memL 8 (fun i => z.testBit i)) (fun y => t.testBit y) gb := ⟨_, rfl⟩
  rw [← hsh] at HSH HSN ⊢
  have KM := Lib.hid (membersOf_w (w := w) hz)
  obtain ⟨lm, hlm⟩ : ∃ x, x = (memI 8 z).length := ⟨_, rfl⟩
  have hlm0 : 0 < lm := by rw [hlm]; exact (List.getElem?_eq_some_iff.1 hmi).1
  have hlm8 : lm ≤ 8 := by rw [hlm]; exact memI_len 8 z
  have HMI := Lib.hid hmi
  have HP := Lib.hid hP
  have HG := Lib.hid hG
  have HN := Lib.hid hn
  have HGL : Hid (gl.length = n ∧ ∀ i, i < n → gl[i]? = some ((g i : Nat) : Int)) := Lib.hid ⟨by rw [hg, tab_len], fun i hi => by rw [hg, tab_get hi]⟩
  have HT : Hid ((nthL W v).length = n ∧ (nthL W v).Nodup ∧ ∀ x ∈ nthL W v, 0 ≤ x ∧ x < (n : Int)) := Lib.hid (by
    obtain ⟨h1, h2⟩ := hW v (by omega)
    rw [← hn] at h1 h2
    exact ⟨h1, (listed_iff.1 h2).1, (listed_iff.1 h2).2⟩)
  have hWm : Hid (∀ x, x < n → (x : Int) ∈ nthL W v) := Lib.hid (fun x hx => hW.mem (by omega) (by omega))
  have HOWN : Hid (((g v : Nat) : Int) ∈ nthL W v) := Lib.hid (hW.mem (by omega) (by rw [← hn]; exact hgr v hvn))
  have IH : Hid (∀ (w' : World) (x : Nat), Below w.heap.size w w' → x < 8 → Calls Try.prog 45 #[.slice a n ca, .slice b n cb, .int .i64 (clr z v : Nat), .int .i64 (clr t x : Nat), .bool (gb || x != g v)] w' fun e w'' => e = .returned (.bool (shareB W g (memL 8 (fun i => (clr z v).testBit i)) (fun y => (clr t x).testBit y) (gb || x != g v))) ∧ Below w'.heap.size w' w'') := Lib.hid (fun w' x hb hx =>
    ih (clr z v) hcl w' (clr t x) _ (hP.below hb) (hG.below hb) (clr_lt hz hv8) (clr_lt ht hx) (fun i hi h => hzn i hi (by
      rw [clr_bit hz hv8 hi, Bool.and_eq_true] at h
      exact h.1)))
  have KL : Hid (∀ w' : World, Calls Try.prog 60 #[.int .i64 z, .int .i64 v] w' fun e w'' => e = .returned (.int .i64 (clr z v : Nat)) ∧ w' = w'') := Lib.hid (fun w' => leave_w hz hv8)
  obtain ⟨cz, hcz⟩ : ∃ x, x = clr z v := ⟨_, rfl⟩
  have HCZ := Lib.hid hcz
  rw [← hcz] at IH KL
  obtain ⟨gv, hgv⟩ : ∃ x, x = g v := ⟨_, rfl⟩
  have HGV := Lib.hid hgv
  rw [← hgv] at IH HOWN
  clear ih hP hG hn hg hgr hW hmem hmi hbv hsh hcl hcz hgv hzn hz0
  rw [← hlm] at KM
  clear hlm
  go_enter Try.func45, Try.ntmps45
  go_wp2_with fail
  refine KM.out.mono ?_
  rintro en2 w2 ⟨⟨va, vc, rfl, hI2⟩, hb2⟩
  obtain ⟨z0, B0, off0, hz0, hva, -, hc0⟩ := hI2.at (i := 0) (by obtain ⟨h, _⟩ := List.getElem?_eq_some_iff.1 HMI.out; exact h)
  subst hva
  obtain rfl : z0 = (v : Int) := Option.some.inj (hz0.symm.trans HMI.out)
  have e0 := hc0 w2 (Below.refl _ _)
  rw [Nat.add_zero] at e0
  have HZ2 := Lib.hid hb2
  obtain ⟨B, off, a', c', ha, hIP, -, -, hc⟩ := HP.out.at (i := v) (by have := HN.out; omega)
  subst ha
  have e1 := hc w2 hb2
  have HIP := Lib.hid hIP
  rw [HT.out.1] at e1
  clear hI2 hz0 hc0 hb2 hc hIP KM
  go_wp2_with fail
  go_loopw [27] (fun iv wr => ∃ k : Nat, k ≤ n ∧ iv = .int .i64 k ∧ Hid (∀ (j x : Nat), j < k → (nthL W v)[j]? = some (x : Int) → x ≠ gv ∧ tryB W g z v t gb x = false) ∧ Hid (Below w2.heap.size w2 wr)) (fun iv _ => n - (intOf iv).toNat)
  case atStart => exact ⟨0, Nat.zero_le _, rfl, Lib.hid (fun j x hj => absurd hj (Nat.not_lt_zero _)), Lib.hid (Below.refl _ _)⟩
  case round =>
    obtain ⟨k, hk, rfl, hno, hY⟩ := hrel
    obtain ⟨wo, rfl⟩ : ∃ wo : World, wo = wr := ⟨_, rfl⟩
    have HZ := Lib.hid (below_trans HZ2.out hY.out)
    by_cases hkn : k < n
    rotate_left
    · exfalso
      obtain ⟨j, hj⟩ := List.getElem?_of_mem HOWN.out
      have hjl := (List.getElem?_eq_some_iff.1 hj).1
      have := HT.out.1
      exact (hno.out j gv (by omega) hj).1 rfl
    have t0 : decide ((k : Int) < (n : Int)) = true := by simp; omega
    obtain ⟨zx, B3, off3, hzx, hva, -, hc3⟩ := HIP.out.at (i := k) (by have := HT.out.1; omega)
    subst hva
    obtain ⟨zo, B4, off4, hzo, hvb, -, hc4⟩ := HG.out.at (i := v) (by have := HGL.out.1; omega)
    subst hvb
    have hx0 := HT.out.2.2 zx (List.mem_of_getElem? hzx)
    obtain ⟨X, rfl⟩ : ∃ X : Nat, zx = (X : Int) := ⟨zx.toNat, by omega⟩
    obtain rfl : zo = (gv : Int) := by
      have := Option.some.inj (hzo.symm.trans (HGL.out.2 v hvn))
      rw [this, HGV.out]
    have e2 := hc3 wo HZ.out
    have e3 := hc4 wo HZ.out
    have hX8 : X < 8 := by omega
    have hXn : X < n := by omega
    have HXK := Lib.hid hzx
    have KI := Lib.hid (isIn_w (w := wo) ht (show X < 9 by omega))
    have KX := Lib.hid (fun w' : World => leave_w (w := w') (z := t) (a := X) ht hX8)
    have KR := Lib.hid (IH.out wo X HZ.out hX8)
    obtain ⟨tb, htb⟩ : ∃ x, x = t.testBit X := ⟨_, rfl⟩
    have HTB := Lib.hid htb
    rw [← htb] at KI
    obtain ⟨cx, hcx⟩ : ∃ x, x = clr t X := ⟨_, rfl⟩
    rw [← hcx] at KX KR
    obtain ⟨rr, hrr⟩ : ∃ x, x = shareB W g (memL 8 (fun i => cz.testBit i)) (fun y => cx.testBit y) (gb || X != gv) := ⟨_, rfl⟩
    rw [← hrr] at KR
    have HTRY : Hid (tryB W g z v t gb X = (tb && rr)) := Lib.hid (by unfold tryB; rw [← HCZ.out, ← HGV.out, hrr, htb, hcx])
    clear hzx hc3 hzo hc4 hx0 htb hcx hrr
    by_cases hown : X = gv
    · subst hown
      have q2 : (X != X) = false := by simp
      rw [q2, Bool.or_false] at KR
      go_wp2_with fail
      refine KI.out.mono ?_
      rintro en3 w3 ⟨rfl, rfl⟩
      cases tb with
      | false =>
        have HZ9 := HZ
        have HN9 : Hid (sh = false) := Lib.hid (HSN.out (fun x hx hsx => by
          have hxin := hWm.out x (by have := HN.out; omega)
          have hgx := score_get hxin
          rw [show scoreQ (nthL W v) ((g v : Nat) : Int) = k by rw [← HGV.out]; exact score_at HT.out.2.1 HXK.out] at hsx
          by_cases e : scoreQ (nthL W v) (x : Int) = k
          · rw [e] at hgx
            obtain rfl : x = X := by have := Option.some.inj (hgx.symm.trans HXK.out); omega
            rw [HTRY.out]; rfl
          · exact (hno.out _ x (by omega) hgx).2))
        go_wp2_with fail
        go_ret
        exact ⟨by rw [HN9.out]; rfl, HZ9.out⟩
      | true =>
        cases gb with
        | true =>
          go_wp2_with fail
          refine (KL.out _).mono ?_
          rintro en4 w4 ⟨rfl, rfl⟩
          go_wp2_with fail
          refine (KX.out _).mono ?_
          rintro en5 w5 ⟨rfl, rfl⟩
          go_wp2_with fail
          refine KR.out.mono ?_
          rintro en6 w6 ⟨rfl, hb6⟩
          have HZ9 := Lib.hid (below_trans HZ.out hb6)
          have HY9 := Lib.hid (below_trans hY.out hb6)
          clear hb6 KR
          cases rr with
          | true =>
            have HN9 : Hid (sh = true) := Lib.hid (HSH.out ⟨X, by have := HN.out; omega, by
              have h1 : scoreQ (nthL W v) (X : Int) = k := score_at HT.out.2.1 HXK.out
              have h2 := score_get HOWN.out
              rw [h1, ← HGV.out]
              rcases Nat.lt_or_ge (scoreQ (nthL W v) (X : Int)) k with hlt | hge
              · exact absurd rfl (hno.out _ X hlt h2).1
              · exact hge, by rw [HTRY.out]; rfl⟩)
            go_wp2_with fail
            go_ret
            exact ⟨by rw [HN9.out]; rfl, HZ9.out⟩
          | false =>
            have HN9 : Hid (sh = false) := Lib.hid (HSN.out (fun x hx hsx => by
              have hxin := hWm.out x (by have := HN.out; omega)
              have hgx := score_get hxin
              rw [show scoreQ (nthL W v) ((g v : Nat) : Int) = k by rw [← HGV.out]; exact score_at HT.out.2.1 HXK.out] at hsx
              by_cases e : scoreQ (nthL W v) (x : Int) = k
              · rw [e] at hgx
                obtain rfl : x = X := by have := Option.some.inj (hgx.symm.trans HXK.out); omega
                rw [HTRY.out]; rfl
              · exact (hno.out _ x (by omega) hgx).2))
            go_wp2_with fail
            go_ret
            exact ⟨by rw [HN9.out]; rfl, HZ9.out⟩
        | false =>
          go_wp2_with fail
          refine (KL.out _).mono ?_
          rintro en4 w4 ⟨rfl, rfl⟩
          go_wp2_with fail
          refine (KX.out _).mono ?_
          rintro en5 w5 ⟨rfl, rfl⟩
          go_wp2_with fail
          refine KR.out.mono ?_
          rintro en6 w6 ⟨rfl, hb6⟩
          have HZ9 := Lib.hid (below_trans HZ.out hb6)
          have HY9 := Lib.hid (below_trans hY.out hb6)
          clear hb6 KR
          cases rr with
          | true =>
            have HN9 : Hid (sh = true) := Lib.hid (HSH.out ⟨X, by have := HN.out; omega, by
              have h1 : scoreQ (nthL W v) (X : Int) = k := score_at HT.out.2.1 HXK.out
              have h2 := score_get HOWN.out
              rw [h1, ← HGV.out]
              rcases Nat.lt_or_ge (scoreQ (nthL W v) (X : Int)) k with hlt | hge
              · exact absurd rfl (hno.out _ X hlt h2).1
              · exact hge, by rw [HTRY.out]; rfl⟩)
            go_wp2_with fail
            go_ret
            exact ⟨by rw [HN9.out]; rfl, HZ9.out⟩
          | false =>
            have HN9 : Hid (sh = false) := Lib.hid (HSN.out (fun x hx hsx => by
              have hxin := hWm.out x (by have := HN.out; omega)
              have hgx := score_get hxin
              rw [show scoreQ (nthL W v) ((g v : Nat) : Int) = k by rw [← HGV.out]; exact score_at HT.out.2.1 HXK.out] at hsx
              by_cases e : scoreQ (nthL W v) (x : Int) = k
              · rw [e] at hgx
                obtain rfl : x = X := by have := Option.some.inj (hgx.symm.trans HXK.out); omega
                rw [HTRY.out]; rfl
              · exact (hno.out _ x (by omega) hgx).2))
            go_wp2_with fail
            go_ret
            exact ⟨by rw [HN9.out]; rfl, HZ9.out⟩
    · have q1 : ((X : Int) == (gv : Int)) = false := by simp; omega
      have q2 : (X != gv) = true := by simp; omega
      rw [q2, Bool.or_true] at KR
      have HOW := Lib.hid hown
      clear hown q2
      go_wp2_with fail
      refine KI.out.mono ?_
      rintro en3 w3 ⟨rfl, rfl⟩
      cases tb with
      | false =>
        have HY9 := hY
        have HN9 : Hid (∀ (j x : Nat), j < k + 1 → (nthL W v)[j]? = some (x : Int) → x ≠ gv ∧ tryB W g z v t gb x = false) := Lib.hid (fun j x hj hx => by
          by_cases e : j < k
          · exact hno.out j x e hx
          · obtain rfl : j = k := by omega
            obtain rfl : x = X := by have := Option.some.inj (hx.symm.trans HXK.out); omega
            exact ⟨HOW.out, by rw [HTRY.out]; rfl⟩)
        clear hno hY HZ
        go_wp2_with fail
        go_roundw
        case rel => exact ⟨k + 1, by omega, by go_num, HN9, HY9⟩
        case measure => simp [intOf]; omega
      | true =>
        cases gb with
        | true =>
          go_wp2_with fail
          refine (KL.out _).mono ?_
          rintro en4 w4 ⟨rfl, rfl⟩
          go_wp2_with fail
          refine (KX.out _).mono ?_
          rintro en5 w5 ⟨rfl, rfl⟩
          go_wp2_with fail
          refine KR.out.mono ?_
          rintro en6 w6 ⟨rfl, hb6⟩
          have HZ9 := Lib.hid (below_trans HZ.out hb6)
          have HY9 := Lib.hid (below_trans hY.out hb6)
          clear hb6 KR
          cases rr with
          | true =>
            have HN9 : Hid (sh = true) := Lib.hid (HSH.out ⟨X, by have := HN.out; omega, by
              have h1 : scoreQ (nthL W v) (X : Int) = k := score_at HT.out.2.1 HXK.out
              have h2 := score_get HOWN.out
              rw [h1, ← HGV.out]
              rcases Nat.lt_or_ge (scoreQ (nthL W v) (gv : Int)) k with hlt | hge
              · exact absurd rfl (hno.out _ gv hlt h2).1
              · exact hge, by rw [HTRY.out]; rfl⟩)
            go_wp2_with fail
            go_ret
            exact ⟨by rw [HN9.out]; rfl, HZ9.out⟩
          | false =>
            have HN9 : Hid (∀ (j x : Nat), j < k + 1 → (nthL W v)[j]? = some (x : Int) → x ≠ gv ∧ tryB W g z v t true x = false) := Lib.hid (fun j x hj hx => by
              by_cases e : j < k
              · exact hno.out j x e hx
              · obtain rfl : j = k := by omega
                obtain rfl : x = X := by have := Option.some.inj (hx.symm.trans HXK.out); omega
                exact ⟨HOW.out, by rw [HTRY.out]; rfl⟩)
            clear hno hY HZ
            go_wp2_with fail
            go_roundw
            case rel => exact ⟨k + 1, by omega, by go_num, HN9, HY9⟩
            case measure => simp [intOf]; omega
        | false =>
          go_wp2_with fail
          refine (KL.out _).mono ?_
          rintro en4 w4 ⟨rfl, rfl⟩
          go_wp2_with fail
          refine (KX.out _).mono ?_
          rintro en5 w5 ⟨rfl, rfl⟩
          go_wp2_with fail
          refine KR.out.mono ?_
          rintro en6 w6 ⟨rfl, hb6⟩
          have HZ9 := Lib.hid (below_trans HZ.out hb6)
          have HY9 := Lib.hid (below_trans hY.out hb6)
          clear hb6 KR
          cases rr with
          | true =>
            have HN9 : Hid (sh = true) := Lib.hid (HSH.out ⟨X, by have := HN.out; omega, by
              have h1 : scoreQ (nthL W v) (X : Int) = k := score_at HT.out.2.1 HXK.out
              have h2 := score_get HOWN.out
              rw [h1, ← HGV.out]
              rcases Nat.lt_or_ge (scoreQ (nthL W v) (gv : Int)) k with hlt | hge
              · exact absurd rfl (hno.out _ gv hlt h2).1
              · exact hge, by rw [HTRY.out]; rfl⟩)
            go_wp2_with fail
            go_ret
            exact ⟨by rw [HN9.out]; rfl, HZ9.out⟩
          | false =>
            have HN9 : Hid (∀ (j x : Nat), j < k + 1 → (nthL W v)[j]? = some (x : Int) → x ≠ gv ∧ tryB W g z v t false x = false) := Lib.hid (fun j x hj hx => by
              by_cases e : j < k
              · exact hno.out j x e hx
              · obtain rfl : j = k := by omega
                obtain rfl : x = X := by have := Option.some.inj (hx.symm.trans HXK.out); omega
                exact ⟨HOW.out, by rw [HTRY.out]; rfl⟩)
            clear hno hY HZ
            go_wp2_with fail
            go_roundw
            case rel => exact ⟨k + 1, by omega, by go_num, HN9, HY9⟩
            case measure => simp [intOf]; omega
end Go.Proofs.Ytomnnickiljkgaa
