/- The reference's sharing: shares, Objects. -/
import Derived.Test.YtomnnickiljkgaaIm
import Derived.Test.YtomnnickiljkgaaHs
import Derived.Test.YtomnnickiljkgaaHo
import Derived.StillTailTactics
namespace Go.Proofs.Ytomnnickiljkgaa
open Go.RowKit
attribute [local go_sem ↓] Go.wp_at_zero Go.wp_at_succ
/-- A thing of the group that is not used. -/
def freeU (grp : List Nat) (ub : List Bool) (y : Nat) : Bool := (List.range grp.length).any (fun k => grp[k]? == some y && ub[k]? == some false)
theorem freeU_at {grp : List Nat} {ub : List Bool} (hnd : grp.Nodup) {k x : Nat} (h : grp[k]? = some x) : freeU grp ub x = (ub[k]? == some false) := by
  rw [Bool.eq_iff_iff]
  unfold freeU
  simp only [List.any_eq_true, List.mem_range, Bool.and_eq_true, beq_iff_eq]
  constructor
  · rintro ⟨j, hj, h1, h2⟩
    have : j = k := by
      unfold List.Nodup at hnd
      rw [List.pairwise_iff_getElem] at hnd
      obtain ⟨a1, a2⟩ := List.getElem?_eq_some_iff.1 h1
      obtain ⟨b1, b2⟩ := List.getElem?_eq_some_iff.1 h
      rcases Nat.lt_trichotomy j k with e | e | e
      · exact absurd (a2.trans b2.symm) (hnd j k a1 b1 e)
      · exact e
      · exact absurd (b2.trans a2.symm) (hnd k j b1 a1 e)
    rw [this] at h2
    exact h2
  · intro h2
    exact ⟨k, (List.getElem?_eq_some_iff.1 h).1, h, h2⟩
theorem freeU_mem {grp : List Nat} {ub : List Bool} {y : Nat} (h : freeU grp ub y = true) : ∃ k : Nat, grp[k]? = some y := by
  unfold freeU at h
  simp only [List.any_eq_true, List.mem_range, Bool.and_eq_true, beq_iff_eq] at h
  obtain ⟨k, _, h1, _⟩ := h
  exact ⟨k, h1⟩
theorem freeU_set {grp : List Nat} {ub : List Bool} (hnd : grp.Nodup) (hl : ub.length = grp.length) {k x y : Nat} (h : grp[k]? = some x) : freeU grp (ub.set k true) y = (freeU grp ub y && y != x) := by
  by_cases hy : ∃ j : Nat, grp[j]? = some y
  · obtain ⟨j, hj⟩ := hy
    rw [freeU_at hnd hj, freeU_at hnd hj]
    by_cases e : j = k
    · subst e
      obtain rfl : y = x := Option.some.inj (hj.symm.trans h)
      rw [List.getElem?_set_self (by rw [hl]; exact (List.getElem?_eq_some_iff.1 h).1)]
      simp
    · rw [List.getElem?_set_ne (fun e' => e e'.symm)]
      have : y ≠ x := fun e' => by
        subst e'
        unfold List.Nodup at hnd
        rw [List.pairwise_iff_getElem] at hnd
        obtain ⟨a1, a2⟩ := List.getElem?_eq_some_iff.1 hj
        obtain ⟨b1, b2⟩ := List.getElem?_eq_some_iff.1 h
        rcases Nat.lt_trichotomy j k with e9 | e9 | e9
        · exact hnd j k a1 b1 e9 (a2.trans b2.symm)
        · exact e e9
        · exact hnd k j b1 a1 e9 (b2.trans a2.symm)
      simp [this]
  · have h1 : ∀ u, freeU grp u y = false := fun u => by
      cases hh : freeU grp u y with
      | false => rfl
      | true => exact absurd (freeU_mem hh) hy
    rw [h1, h1]; rfl
/-- One thing tried. -/
def tryU (W : List (List Int)) (g : Nat → Nat) (grp : List Nat) (ub : List Bool) (i v : Nat) (bt : Bool) (x : Nat) : Bool :=
  freeU grp ub x && decide (scoreQ (nthL W v) (x : Int) ≤ scoreQ (nthL W v) (g v : Int)) && shareB W g (grp.drop (i + 1)) (fun y => freeU grp ub y && y != x) (bt || x != g v)
theorem shareU_yes {W : List (List Int)} {g : Nat → Nat} {grp : List Nat} {ub : List Bool} {i v x : Nat} {bt : Bool} (hv : grp[i]? = some v) (hx : x < W.length) (h : tryU W g grp ub i v bt x = true) : shareB W g (grp.drop i) (freeU grp ub) bt = true := by
  obtain ⟨hi, hv'⟩ := List.getElem?_eq_some_iff.1 hv
  rw [List.drop_eq_getElem_cons hi, hv', shareB, List.any_eq_true]
  exact ⟨x, List.mem_range.2 hx, h⟩
theorem shareU_no {W : List (List Int)} {g : Nat → Nat} {grp : List Nat} {ub : List Bool} {i v : Nat} {bt : Bool} (hv : grp[i]? = some v) (h : ∀ (j x : Nat), grp[j]? = some x → tryU W g grp ub i v bt x = false) : shareB W g (grp.drop i) (freeU grp ub) bt = false := by
  obtain ⟨hi, hv'⟩ := List.getElem?_eq_some_iff.1 hv
  rw [List.drop_eq_getElem_cons hi, hv', shareB, List.any_eq_false]
  intro x _
  have e : (freeU grp ub x && decide (scoreQ (nthL W v) (x : Int) ≤ scoreQ (nthL W v) (g v : Int)) && shareB W g (grp.drop (i + 1)) (fun y => freeU grp ub y && y != x) (bt || x != g v)) = tryU W g grp ub i v bt x := rfl
  rw [e]
  cases hf : freeU grp ub x with
  | true =>
    obtain ⟨j, hj⟩ := freeU_mem hf
    rw [h j x hj]; simp
  | false => unfold tryU; rw [hf]; simp
theorem set_back {ub : List Bool} {k : Nat} (h : ub[k]? = some false) : (ub.set k true).set k false = ub := by
  rw [List.set_set]
  apply List.ext_getElem?
  intro i
  by_cases e : i = k
  · subst e
    rw [List.getElem?_set_self (List.getElem?_eq_some_iff.1 h).1, h]
  · rw [List.getElem?_set_ne (fun e' => e e'.symm)]
theorem Only.trans9 {B : Nat} {a b c : World} (h : Only B a b) (k : Only B b c) : Only B a c := ⟨k.os.trans h.os, k.tape.trans h.tape, k.output.trans h.output, k.size.trans h.size, fun i hi => (k.block i hi).trans (h.block i hi)⟩
theorem Only.below9 {B N : Nat} {a b : World} (h : Only B a b) (hN : N ≤ B) : Below N a b := below_only (Below.refl N a) h hN
set_option maxRecDepth 100000 in
set_option maxHeartbeats 8000000 in
theorem shares_w {w0 : World} {a b c : Option Addr} {W : List (List Int)} {gl : List Int} {g : Nat → Nat} {grp : List Nat} {n m ca cb cc U : Nat} (hP : RowsF w0 a W) (hG : IntsF w0 b gl) (hC : IntsF w0 c (grp.map (fun i : Nat => (i : Int)))) (hU : w0.heap.size ≤ U) (hs : SmallL W) (hn : n = W.length)
    (hg : gl = tabI n (fun i => ((g i : Nat) : Int))) (hm : m = grp.length) (hm8 : m ≤ 8) (hnd : grp.Nodup) (hgn : ∀ x ∈ grp, x < n) (d : Nat) : ∀ (w : World) (i : Nat) (ub : List Bool) (bt : Bool), i + d = m → Below w0.heap.size w0 w → BlkT w U 4 ub → ub.length = m →
    Calls Try.prog 55 #[.slice a n ca, .slice b n cb, .slice c m cc, .int .i64 i, .slice (some ⟨U, 0, none⟩) m m, .bool bt] w fun e w' => (e = .returned (.bool (shareB W g (grp.drop i) (freeU grp ub) bt)) ∧ BlkT w' U 4 ub) ∧ Only U w w' := by
  induction d with
  | zero =>
    intro w i ub bt hi hb hT hl
    obtain rfl : i = m := by omega
    have hr : shareB W g (grp.drop i) (freeU grp ub) bt = bt := by rw [List.drop_of_length_le (by omega), shareB]
    rw [hr]
    have HT := Lib.hid hT
    have q1 : ((i : Int) == (i : Int)) = true := by simp
    clear hP hG hC hs hn hg hm hnd hgn hb hT hl hr
    go_enter Try.func55, Try.ntmps55
    go_wp2_with fail
    go_ret
    exact ⟨⟨rfl, HT.out⟩, Only.refl _ _⟩
  | succ d ih =>
    intro w i ub bt hi hb hT hl
    have him : i < m := by omega
    have q1 : ((i : Int) == (m : Int)) = false := by simp; omega
    obtain ⟨v, hv⟩ : ∃ v, grp[i]? = some v := ⟨_, List.getElem?_eq_getElem (by omega)⟩
    have hvn : v < n := hgn v (List.mem_of_getElem? hv)
    have HYES : Hid (∀ x, x < n → tryU W g grp ub i v bt x = true → shareB W g (grp.drop i) (freeU grp ub) bt = true) := Lib.hid (fun x hx h => shareU_yes hv (by omega) h)
    have HNO : Hid ((∀ (j x : Nat), grp[j]? = some x → tryU W g grp ub i v bt x = false) → shareB W g (grp.drop i) (freeU grp ub) bt = false) := Lib.hid (fun h => shareU_no hv h)
    obtain ⟨sh, hsh⟩ : ∃ x, x = shareB W g (grp.drop i) (freeU grp ub) bt := ⟨_, rfl⟩
    rw [← hsh] at HYES HNO ⊢
    have HGG : Hid (∀ (k x : Nat), grp[k]? = some x → x < n) := Lib.hid (fun k x h => hgn x (List.mem_of_getElem? h))
    have IH : Hid (∀ (w' : World) (k x : Nat) (b9 : Bool), grp[k]? = some x → ub[k]? = some false → Below w0.heap.size w0 w' → BlkT w' U 4 (ub.set k true) →
        Calls Try.prog 55 #[.slice a n ca, .slice b n cb, .slice c m cc, .int .i64 ((i + 1 : Nat) : Int), .slice (some ⟨U, 0, none⟩) m m, .bool b9] w' fun e w'' => (e = .returned (.bool (shareB W g (grp.drop (i + 1)) (fun y => freeU grp ub y && y != x) b9)) ∧ BlkT w'' U 4 (ub.set k true)) ∧ Only U w' w'') := Lib.hid (fun w' k x b9 hk huk hb' hT' => by
      have h9 := ih w' (i + 1) (ub.set k true) b9 (by omega) hb' hT' (by rw [List.length_set]; exact hl)
      have e9 : freeU grp (ub.set k true) = fun y => freeU grp ub y && y != x := funext (fun y => freeU_set hnd (by omega) hk)
      rw [e9] at h9
      exact h9)
    have HFR : Hid (∀ (k x : Nat), grp[k]? = some x → freeU grp ub x = (ub[k]? == some false)) := Lib.hid (fun k x h => freeU_at hnd h)
    have HGI : Hid (∀ (k x : Nat), grp[k]? = some x → (grp.map (fun i : Nat => (i : Int)))[k]? = some (x : Int)) := Lib.hid (fun k x h => by rw [List.getElem?_map, h]; rfl)
    have HGL : Hid (gl[v]? = some ((g v : Nat) : Int)) := Lib.hid (by rw [hg, tab_get hvn])
    have HM : Hid (m = grp.length) := Lib.hid hm
    have HN := Lib.hid hn
    have HL := Lib.hid hl
    have HP := Lib.hid hP
    have HG := Lib.hid hG
    have HC := Lib.hid hC
    have HT := Lib.hid hT
    have HB := Lib.hid hb
    have HV := Lib.hid hv
    have HU := Lib.hid hU
    have hln12 := hs.nth v
    obtain ⟨B, off, a', c', ha, hIP, -, -, hc⟩ := hP.at (i := v) (by omega)
    have HIP := Lib.hid hIP
    have HCW := Lib.hid hc
    obtain ⟨ln, hln⟩ : ∃ x, x = (nthL W v).length := ⟨_, rfl⟩
    have HLN := Lib.hid hln
    have KS : Hid (∀ (w' : World) (y : Int), Below w0.heap.size w0 w' → Calls Try.prog 17 #[.slice a' ln c', .int .i64 y] w' fun e w'' => e = .returned (.int .i64 (scoreQ (nthL W v) y : Nat)) ∧ w' = w'') := Lib.hid (fun w' y hb' => score_w (c := c') (v := y) (hIP.below hb') hln (by omega))
    obtain ⟨gv, hgv⟩ : ∃ x, x = g v := ⟨_, rfl⟩
    have HGV := Lib.hid hgv
    obtain ⟨zc, Bc, offc, hzc, hca, -, hcc⟩ := hC.at (i := i) (by rw [List.length_map]; omega)
    obtain rfl : zc = (v : Int) := Option.some.inj (hzc.symm.trans (HGI.out i v hv))
    have e0 := hcc w hb
    subst ha hca
    obtain ⟨so, hso⟩ : ∃ x, x = scoreQ (nthL W v) (g v : Int) := ⟨_, rfl⟩
    have HSO := Lib.hid hso
    clear ih hP hG hC hs hn hg hm hnd hgn hb hT hl hv hU hIP hc hln hgv hzc hcc hso hsh hi
    go_enter Try.func55, Try.ntmps55
    go_wp2_with fail
    go_loopw [14] (fun iv wr => ∃ k : Nat, k ≤ m ∧ iv = .int .i64 k ∧ Hid (∀ (j x : Nat), j < k → grp[j]? = some x → tryU W g grp ub i v bt x = false) ∧ Hid (BlkT wr U 4 ub) ∧ Hid (Only U w wr)) (fun iv _ => m - (intOf iv).toNat)
    case atStart => exact ⟨0, Nat.zero_le _, rfl, Lib.hid (fun j x hj => absurd hj (Nat.not_lt_zero _)), HT, Lib.hid (Only.refl _ _)⟩
    case round =>
      obtain ⟨k, hk, rfl, hno, hT9, hO⟩ := hrel
      obtain ⟨wo, rfl⟩ : ∃ wo : World, wo = wr := ⟨_, rfl⟩
      by_cases hkm : k < m
      rotate_left
      · have t0 : decide ((k : Int) < (m : Int)) = false := by simp; omega
        have HN9 : Hid (sh = false) := Lib.hid (HNO.out (fun j x hx => hno.out j x (by have := (List.getElem?_eq_some_iff.1 hx).1; have := HM.out; omega) hx))
        go_wp2_with fail
        go_ret
        exact ⟨⟨by rw [HN9.out]; rfl, hT9.out⟩, hO.out⟩
      have t0 : decide ((k : Int) < (m : Int)) = true := by simp; omega
      obtain ⟨X, hX⟩ : ∃ X, grp[k]? = some X := ⟨_, List.getElem?_eq_getElem (by have := HM.out; omega)⟩
      have HX := Lib.hid hX
      have hXn : X < n := HGG.out k X hX
      obtain ⟨uk, huk⟩ : ∃ x, ub[k]? = some x := ⟨_, List.getElem?_eq_getElem (by have := HL.out; omega)⟩
      have HUK := Lib.hid huk
      have HB9 := Lib.hid (below_only HB.out hO.out HU.out)
      obtain ⟨zk, Bk, offk, hzk, hck, -, hckk⟩ := HC.out.at (i := k) (by rw [List.length_map]; have := HM.out; omega)
      cases hck
      obtain rfl : zk = (X : Int) := Option.some.inj (hzk.symm.trans (HGI.out k X hX))
      obtain ⟨zo, B4, off4, hzo, hvb, -, hc4⟩ := HG.out.at (i := v) (List.getElem?_eq_some_iff.1 HGL.out).1
      subst hvb
      obtain rfl : zo = (gv : Int) := by rw [HGV.out]; exact Option.some.inj (hzo.symm.trans HGL.out)
      have e1 := HCW.out wo HB9.out
      rw [← HLN.out] at e1
      have e2 := hckk wo HB9.out
      have e3 := hc4 wo HB9.out
      have e4 : wo.cell? ⟨U, k, none⟩ = some (.bool uk) := hT9.out.cell huk
      obtain ⟨sx, hsx⟩ : ∃ x, x = scoreQ (nthL W v) (X : Int) := ⟨_, rfl⟩
      have HSX := Lib.hid hsx
      have K1 : Hid (Calls Try.prog 17 #[.slice a' ln c', .int .i64 (X : Int)] wo.drew fun e w'' => e = .returned (.int .i64 (sx : Nat)) ∧ w'' = wo.drew) := Lib.hid (by rw [hsx]; exact (KS.out wo.drew _ (below_drewN HB9.out 1)).mono (fun e w'' h => ⟨h.1, h.2.symm⟩))
      have K2 : Hid (Calls Try.prog 17 #[.slice a' ln c', .int .i64 (gv : Int)] wo.drew fun e w'' => e = .returned (.int .i64 (so : Nat)) ∧ w'' = wo.drew) := Lib.hid (by rw [HSO.out, ← HGV.out]; exact (KS.out wo.drew _ (below_drewN HB9.out 1)).mono (fun e w'' h => ⟨h.1, h.2.symm⟩))
      have HC4 := Lib.hid hc4
      clear hX huk hzk hckk hzo hc4 hsx
      go_wp2_with fail
      cases uk with
      | true =>
        go_quiet (fail)
        have HN9 : Hid (∀ (j x : Nat), j < k + 1 → grp[j]? = some x → tryU W g grp ub i v bt x = false) := Lib.hid (fun j x hj hx => by
          by_cases e : j < k
          · exact hno.out j x e hx
          · obtain rfl : j = k := by omega
            unfold tryU
            rw [HFR.out j x hx, HUK.out]; rfl)
        have HT5 : Hid (BlkT (wo.drewN nq) U 4 ub) := Lib.hid hT9.out
        have HO5 : Hid (Only U w (wo.drewN nq)) := Lib.hid ⟨hO.out.os, hO.out.tape, hO.out.output, hO.out.size, hO.out.block⟩
        clear e1 e2 e3 e4 K1 K2 hT9 hO HB9
        go_wp2_with fail
        go_roundw
        case rel => exact ⟨k + 1, by omega, by go_num, HN9, HT5, HO5⟩
        case measure => simp [intOf]; omega
      | false =>
        by_cases hgt : so < sx
        · have t5 : decide ((sx : Int) > (so : Int)) = true := by simp; omega
          have t6 : decide ((so : Int) < (sx : Int)) = true := by simp; omega
          refine wp_region_still_lit (by kernel_rfl) (by kernel_rfl) ?_
          repeat still_step
          (still_call K1.out)
          repeat still_step
          (still_call K2.out)
          repeat still_step
          refine wpStill_nil ?_
          have HN9 : Hid (∀ (j x : Nat), j < k + 1 → grp[j]? = some x → tryU W g grp ub i v bt x = false) := Lib.hid (fun j x hj hx => by
            by_cases e : j < k
            · exact hno.out j x e hx
            · obtain rfl : j = k := by omega
              obtain rfl : x = X := Option.some.inj (hx.symm.trans HX.out)
              unfold tryU
              rw [decide_eq_false (by rw [← HSX.out, ← HSO.out]; omega)]
              simp)
          have HT5 : Hid (BlkT (wo.drewN 1) U 4 ub) := Lib.hid hT9.out
          have HO5 : Hid (Only U w (wo.drewN 1)) := Lib.hid ⟨hO.out.os, hO.out.tape, hO.out.output, hO.out.size, hO.out.block⟩
          clear e1 e2 e3 e4 K1 K2 hT9 hO HB9
          go_wp2_with fail
          go_roundw
          case rel => exact ⟨k + 1, by omega, by go_num, HN9, HT5, HO5⟩
          case measure => simp [intOf]; omega
        · have t5 : decide ((sx : Int) > (so : Int)) = false := by simp; omega
          have t6 : decide ((so : Int) < (sx : Int)) = false := by simp; omega
          refine wp_region_still_lit (by kernel_rfl) (by kernel_rfl) ?_
          repeat still_step
          (still_call K1.out)
          repeat still_step
          (still_call K2.out)
          repeat still_step
          refine wpStill_nil ?_
          generalize hw : ({ heap := wo.heap, tape := wo.tape, drawn := wo.drawn + 1, os := wo.os, output := wo.output } : World) = w5
          have hw5 : w5 = wo.drew := hw.symm
          clear hw
          have HT5 : Hid (BlkT w5 U 4 ub) := Lib.hid (by rw [hw5]; exact hT9.out)
          have HO5 : Hid (Only U w w5) := Lib.hid (by rw [hw5]; exact ⟨hO.out.os, hO.out.tape, hO.out.output, hO.out.size, hO.out.block⟩)
          have c5 : w5.cell? ⟨U, k, none⟩ = some (.bool false) := HT5.out.cell HUK.out
          clear hw5 e1 e2 e3 e4 K1 K2 hT9 hO HB9
          go_wp2_with ((with_reducible refine at_store ?_); refine wpList_store_bool rfl (.tmp 60) (.const (.bool true)) rfl U k rfl true rfl _ _ HT5.out (by have := HL.out; omega) ?_; intro w6 h6 on6; refine halt ?_)
          refine go_on ?_
          have HT6 := Lib.hid h6
          have HO6 := Lib.hid (HO5.out.trans9 on6)
          have HB6 := Lib.hid (below_only HB.out HO6.out HU.out)
          have f6 := HC4.out w6 HB6.out
          clear h6 on6 HT5 HO5 c5
          obtain ⟨xb, hxb⟩ : ∃ xb, xb = (X != gv) := ⟨_, rfl⟩
          have HXB : Hid ((false || X != g v) = xb) := Lib.hid (by rw [hxb, HGV.out]; rfl)
          have n1 : ((X : Int) != (gv : Int)) = xb := by rw [hxb, Bool.eq_iff_iff]; simp; omega
          have n2 : ((X : Int) == (gv : Int)) = !xb := by rw [hxb, Bool.eq_iff_iff]; simp; omega
          clear hxb
          cases bt with
          | true =>
            have KR := Lib.hid (IH.out w6 k X true HX.out HUK.out HB6.out HT6.out)
            obtain ⟨rr, hrr⟩ : ∃ rr, rr = shareB W g (grp.drop (i + 1)) (fun y => freeU grp ub y && y != X) true := ⟨_, rfl⟩
            rw [← hrr] at KR
            have HTRY : Hid (tryU W g grp ub i v true X = rr) := Lib.hid (by
              unfold tryU
              rw [HFR.out k X HX.out, HUK.out, decide_eq_true (show scoreQ (nthL W v) (X : Int) ≤ scoreQ (nthL W v) (g v : Int) by rw [← HSX.out, ← HSO.out]; omega), hrr]
              rfl)
            clear hrr
            go_wp2_with fail
            refine KR.out.mono ?_
            rintro en7 w7 ⟨⟨rfl, h7⟩, on7⟩
            have HT7 := Lib.hid h7
            have HO7 := Lib.hid (HO6.out.trans9 on7)
            have c7 : w7.cell? ⟨U, k, none⟩ = some (.bool true) := h7.cell (List.getElem?_set_self (by have := HL.out; omega))
            clear h7 on7 KR f6 HT6 HB6 HO6
            go_wp2_with ((with_reducible refine at_store ?_); refine wpList_store_bool rfl (.tmp 79) (.const (.bool false)) rfl U k rfl false rfl _ _ HT7.out (by rw [List.length_set]; have := HL.out; omega) ?_; intro w8 h8 on8; refine halt ?_)
            refine go_on ?_
            have HT8 : Hid (BlkT w8 U 4 ub) := Lib.hid (by have := h8; rwa [set_back HUK.out] at this)
            have HO8 := Lib.hid (HO7.out.trans9 on8)
            clear h8 on8 HT7 HO7 c7
            cases rr with
            | true =>
              have HN9 : Hid (sh = true) := Lib.hid (HYES.out X hXn HTRY.out)
              go_wp2_with fail
              go_ret
              exact ⟨⟨by rw [HN9.out]; rfl, HT8.out⟩, HO8.out⟩
            | false =>
              have HN9 : Hid (∀ (j x : Nat), j < k + 1 → grp[j]? = some x → tryU W g grp ub i v true x = false) := Lib.hid (fun j x hj hx => by
                by_cases e : j < k
                · exact hno.out j x e hx
                · obtain rfl : j = k := by omega
                  obtain rfl : x = X := Option.some.inj (hx.symm.trans HX.out)
                  exact HTRY.out)
              go_wp2_with fail
              go_roundw
              case rel => exact ⟨k + 1, by omega, by go_num, HN9, HT8, HO8⟩
              case measure => simp [intOf]; omega
          | false =>
            have KR := Lib.hid (IH.out w6 k X xb HX.out HUK.out HB6.out HT6.out)
            obtain ⟨rr, hrr⟩ : ∃ rr, rr = shareB W g (grp.drop (i + 1)) (fun y => freeU grp ub y && y != X) xb := ⟨_, rfl⟩
            rw [← hrr] at KR
            have HTRY : Hid (tryU W g grp ub i v false X = rr) := Lib.hid (by
              unfold tryU
              rw [HFR.out k X HX.out, HUK.out, decide_eq_true (show scoreQ (nthL W v) (X : Int) ≤ scoreQ (nthL W v) (g v : Int) by rw [← HSX.out, ← HSO.out]; omega), hrr, HXB.out]
              rfl)
            clear hrr
            go_wp2_with fail
            refine KR.out.mono ?_
            rintro en7 w7 ⟨⟨rfl, h7⟩, on7⟩
            have HT7 := Lib.hid h7
            have HO7 := Lib.hid (HO6.out.trans9 on7)
            have c7 : w7.cell? ⟨U, k, none⟩ = some (.bool true) := h7.cell (List.getElem?_set_self (by have := HL.out; omega))
            clear h7 on7 KR f6 HT6 HB6 HO6
            go_wp2_with ((with_reducible refine at_store ?_); refine wpList_store_bool rfl (.tmp 79) (.const (.bool false)) rfl U k rfl false rfl _ _ HT7.out (by rw [List.length_set]; have := HL.out; omega) ?_; intro w8 h8 on8; refine halt ?_)
            refine go_on ?_
            have HT8 : Hid (BlkT w8 U 4 ub) := Lib.hid (by have := h8; rwa [set_back HUK.out] at this)
            have HO8 := Lib.hid (HO7.out.trans9 on8)
            clear h8 on8 HT7 HO7 c7
            cases rr with
            | true =>
              have HN9 : Hid (sh = true) := Lib.hid (HYES.out X hXn HTRY.out)
              go_wp2_with fail
              go_ret
              exact ⟨⟨by rw [HN9.out]; rfl, HT8.out⟩, HO8.out⟩
            | false =>
              have HN9 : Hid (∀ (j x : Nat), j < k + 1 → grp[j]? = some x → tryU W g grp ub i v false x = false) := Lib.hid (fun j x hj hx => by
                by_cases e : j < k
                · exact hno.out j x e hx
                · obtain rfl : j = k := by omega
                  obtain rfl : x = X := Option.some.inj (hx.symm.trans HX.out)
                  exact HTRY.out)
              go_wp2_with fail
              go_roundw
              case rel => exact ⟨k + 1, by omega, by go_num, HN9, HT8, HO8⟩
              case measure => simp [intOf]; omega
end Go.Proofs.Ytomnnickiljkgaa
