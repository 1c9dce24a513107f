/- Serial of both. -/
import Derived.Test.YtomnnickiljkgaaHn
namespace Go.Proofs.Ytomnnickiljkgaa
open Go.RowKit
attribute [local go_sem ↓] Go.wp_at_zero Go.wp_at_succ

def tabB (n : Nat) (f : Nat → Bool) : List Bool := (List.range n).map f
theorem tabB_len (n : Nat) (f : Nat → Bool) : (tabB n f).length = n := by simp [tabB]
theorem tabB_get {n i : Nat} {f : Nat → Bool} (h : i < n) : (tabB n f)[i]? = some (f i) := by
  unfold tabB
  rw [List.getElem?_map, List.getElem?_range h]; rfl
theorem tabB_congr {n : Nat} {f g : Nat → Bool} (h : ∀ i, i < n → f i = g i) : tabB n f = tabB n g := by
  unfold tabB
  exact List.map_congr_left (fun i hi => h i (List.mem_range.1 hi))
theorem tabB_set {n i : Nat} {f : Nat → Bool} {v : Bool} : (tabB n f).set i v = tabB n (fun j => if j = i then v else f j) := by
  apply List.ext_getElem?
  intro j
  by_cases hj : j < n
  · by_cases hji : j = i
    · subst hji
      rw [List.getElem?_set_self (by rw [tabB_len]; exact hj), tabB_get hj, if_pos rfl]
    · rw [List.getElem?_set_ne (fun e => hji e.symm), tabB_get hj, tabB_get hj, if_neg hji]
  · rw [List.getElem?_eq_none (by simp [tabB]; omega), List.getElem?_eq_none (by simp [tabB]; omega)]
theorem tabB_rep (n : Nat) (x : Bool) : tabB n (fun _ => x) = List.replicate n x := by
  unfold tabB
  apply List.ext_getElem?
  intro i
  rw [List.getElem?_map, List.getElem?_replicate]
  by_cases h : i < n
  · rw [List.getElem?_range h, if_pos h]; rfl
  · rw [List.getElem?_eq_none (by simp; omega), if_neg h]; rfl
set_option maxRecDepth 8000 in
set_option maxHeartbeats 2000000 in
theorem best_w {w : World} {a : Option Addr} {m c k LB : Nat} {l : List Int} {lf : Nat → Bool} (h : IntsF w a l) (hm : m = l.length) (hm9 : m ≤ 1000) (hT : BlkT w LB 4 (tabB k lf)) (hr : ∀ x ∈ l, 0 ≤ x ∧ x < (k : Int)) :
    Calls Try.prog 38 #[.slice a m c, .slice (some ⟨LB, 0, none⟩) k k] w fun e w' => e = .returned (.int .i64 (firstQ l (fun x => lf x.toNat))) ∧ w = w' := by
  have HI := Lib.hid h
  have HM := Lib.hid hm
  have HT := Lib.hid hT
  have HR := Lib.hid hr
  obtain ⟨r, hr9⟩ : ∃ r, r = firstQ l (fun x => lf x.toNat) := ⟨_, rfl⟩
  have HQ := Lib.hid hr9
  rw [← hr9]
  clear h hm hT hr hr9
  go_enter Try.func38, Try.ntmps38
  go_wp2_with fail
  go_loopw [5] (fun iv wr => ∃ i : Nat, i ≤ m ∧ iv = .int .i64 i ∧ wr = w ∧ Hid (∀ (j : Nat) (z : Int), j < i → l[j]? = some z → lf z.toNat = false)) (fun iv _ => m - (intOf iv).toNat)
  case atStart => exact ⟨0, Nat.zero_le _, rfl, rfl, Lib.hid (fun j z hj => absurd hj (Nat.not_lt_zero _))⟩
  case round =>
    obtain ⟨i, hi, rfl, rfl, hno⟩ := hrel
    by_cases hin : i < m
    · have t0 : decide ((i : Int) < (m : Int)) = true := by simp; omega
      obtain ⟨z, B, off, hz, ha, hzb, hc⟩ := HI.out.at (i := i) (by have := HM.out; omega)
      subst ha
      have e1 := hc _ (Below.refl _ _)
      have HLZ := Lib.hid hz
      have hzr := HR.out z (List.mem_of_getElem? hz)
      obtain ⟨j, rfl⟩ : ∃ j : Nat, z = (j : Int) := ⟨z.toNat, by omega⟩
      have hjk : j < k := by omega
      obtain ⟨bz, hbz⟩ : ∃ b, b = lf j := ⟨_, rfl⟩
      have HBZ := Lib.hid hbz
      have e2 : wr.cell? ⟨LB, j, none⟩ = some (.bool bz) := by rw [hbz]; exact HT.out.cell (tabB_get hjk)
      clear hc hz hzr hbz
      cases bz with
      | true =>
        have HE : Hid ((j : Int) = r) := Lib.hid (by
          rw [HQ.out]
          exact (first_at HLZ.out (by rw [Int.toNat_natCast]; exact HBZ.out.symm) hno.out).symm)
        go_wp2_with fail
        go_ret
        exact ⟨by rw [← HE.out]; rfl, rfl⟩
      | false =>
        have HN9 : Hid (∀ (j : Nat) (z : Int), j < i + 1 → l[j]? = some z → lf z.toNat = false) := Lib.hid (fun j' y hj hy => by
          by_cases hji : j' = i
          · subst hji
            rw [HLZ.out] at hy
            cases hy
            rw [Int.toNat_natCast]
            exact HBZ.out.symm
          · exact hno.out j' y (by omega) hy)
        go_wp2_with fail
        go_roundw
        case rel => exact ⟨i + 1, by omega, by go_num, by first | rfl | trivial, HN9⟩
        case measure => simp [intOf]; omega
    · have t0 : decide ((i : Int) < (m : Int)) = false := by simp; omega
      have HE : Hid (-1 = r) := Lib.hid (by
        rw [HQ.out]
        refine (first_no fun x hx => ?_).symm
        obtain ⟨j, hj⟩ := List.getElem?_of_mem hx
        exact hno.out j x (by have := (List.getElem?_eq_some_iff.1 hj).1; have := HM.out; omega) hj)
      go_wp2_with fail
      go_ret
      exact ⟨by rw [← HE.out]; rfl, rfl⟩

theorem contains_set {got : List Int} {ag : Nat} {x y : Int} (h : got[ag]? = some (-1)) (hy : 0 ≤ y) : (got.set ag x).contains y = (decide (y = x) || got.contains y) := by
  rw [Bool.eq_iff_iff]
  simp only [Bool.or_eq_true, decide_eq_true_eq, List.contains_iff_mem]
  obtain ⟨hl, he⟩ := List.getElem?_eq_some_iff.1 h
  constructor
  · intro hm
    rcases List.mem_or_eq_of_mem_set hm with e | e
    · exact Or.inr e
    · exact Or.inl e
  · rintro (e | e)
    · subst e
      exact List.mem_of_getElem? (List.getElem?_set_self hl)
    · obtain ⟨j, hj⟩ := List.getElem?_of_mem e
      have hja : ag ≠ j := fun e9 => by
        subst e9
        rw [h] at hj
        have := Option.some.inj hj
        omega
      exact List.mem_of_getElem? ((List.getElem?_set_ne hja).trans hj)
theorem left_set {got : List Int} {ag k j : Nat} (h : got[ag]? = some (-1)) : (tabB k (fun y => !got.contains (y : Int))).set j false = tabB k (fun y => !(got.set ag (j : Int)).contains (y : Int)) := by
  rw [tabB_set]
  apply tabB_congr
  intro i _
  rw [contains_set h (by omega)]
  by_cases e : i = j
  · subst e; simp
  · rw [if_neg e]
    have : decide ((i : Int) = (j : Int)) = false := by simp; omega
    rw [this, Bool.false_or]

set_option maxRecDepth 8000 in
set_option maxHeartbeats 8000000 in
theorem taken_w {w : World} {m c n ca k : Nat} {a b : Option Addr} {order : List Int} {W : List (List Int)} (h : IntsF w a order) (hm : m = order.length) (hm8 : m ≤ 8) (hW : RowsF w b W) (hs : SmallL W) (hn : n = W.length) (hn8 : n ≤ 8) (hk : k ≤ 8) (hok : okLists k false W = true) (ho : listedQ n order = true) :
    Calls Try.prog 47 #[.slice a m c, .slice b n ca, .int .i64 (k : Nat)] w fun e w' => (∃ B, e = .returned (.slice (some ⟨B, 0, none⟩) n n) ∧ w.heap.size ≤ B ∧ BlkI w' B (serL W order (List.replicate n (-1)))) ∧ Below w.heap.size w w' := by
  have HO := Lib.hid h
  have HM := Lib.hid hm
  have HW := Lib.hid hW
  have HS := Lib.hid hs
  have HN := Lib.hid hn
  have HOK := Lib.hid hok
  have HLO := Lib.hid (listed_iff.1 ho)
  clear h hm hW hs hn hok ho
  go_enter Try.func47, Try.ntmps47
  go_wp2_with (at_make; refine wpList_make_bools rfl _ _ _ rfl Try.underlying59 info_bool9 k rfl rfl (by omega) ?_; intro w2 hr2 hb2 hs2; refine halt ?_)
  refine go_on ?_
  obtain ⟨LB, hLB⟩ : ∃ G, G = w.heap.size := ⟨_, rfl⟩
  rw [← hLB] at hr2 ⊢
  have HLB : Hid (w.heap.size ≤ LB) := Lib.hid (by omega)
  have HT2 : Hid (BlkT w2 LB 4 (tabB k (fun y => decide (y < 0)))) := Lib.hid (by
    have : tabB k (fun y => decide (y < 0)) = List.replicate k false := by rw [← tabB_rep]; apply tabB_congr; intro i _; simp
    rw [this]; exact hr2)
  have HZ2 : Hid (Below w.heap.size w w2) := Lib.hid hb2
  clear hr2 hb2 hs2 hLB
  go_wp2_with fail
  go_loopw [8] (fun iv wr => ∃ i : Nat, i ≤ k ∧ iv = .int .i64 i ∧ Hid (BlkT wr LB 4 (tabB k (fun y => decide (y < i)))) ∧ Hid (Below w.heap.size w wr)) (fun iv _ => k - (intOf iv).toNat)
  case atStart => exact ⟨0, Nat.zero_le _, rfl, HT2, HZ2⟩
  case round =>
    obtain ⟨i, hi, rfl, hT, hZ⟩ := hrel
    obtain ⟨wo, rfl⟩ : ∃ wo : World, wo = wr := ⟨_, rfl⟩
    clear HT2 HZ2
    by_cases hik : i < k
    · have t0 : decide ((i : Int) < (k : Int)) = true := by simp; omega
      have e1 : wo.cell? ⟨LB, i, none⟩ = some (.bool (decide (i < i))) := hT.out.cell (tabB_get (f := fun y => decide (y < i)) hik)
      have z1 := hT.out.frozen i
      have HT9 : Hid (BlkT (wo.setCell ⟨LB, i, none⟩ (.bool true)) LB 4 (tabB k (fun y => decide (y < i + 1)))) := Lib.hid (by
        have h9 := hT.out.setCell i true
        rw [tabB_set] at h9
        have : tabB k (fun y => decide (y < i + 1)) = tabB k (fun j => if j = i then true else decide (j < i)) := by
          apply tabB_congr
          intro j _
          by_cases e : j = i
          · subst e; simp
          · rw [if_neg e]
            have : (j < i + 1) ↔ j < i := by omega
            simp [this]
        rw [this]; exact h9)
      have HZ9 : Hid (Below w.heap.size w (wo.setCell ⟨LB, i, none⟩ (.bool true))) := Lib.hid (below_only hZ.out ((Only.refl LB wo).setCell i _) HLB.out)
      obtain ⟨e0, he0⟩ : ∃ e, e = decide (i < i) := ⟨_, rfl⟩
      rw [← he0] at e1
      clear he0
      go_wp2_with fail
      go_roundw
      case rel => exact ⟨i + 1, by omega, by go_num, HT9, HZ9⟩
      case measure => simp [intOf]; omega
    · have t0 : decide ((i : Int) < (k : Int)) = false := by simp; omega
      have hTL : Hid (BlkT wo LB 4 (tabB k (fun y => !(List.replicate n (-1 : Int)).contains (y : Int)))) := Lib.hid (by
        have h9 := hT.out
        have : tabB k (fun y => !(List.replicate n (-1 : Int)).contains (y : Int)) = tabB k (fun y => decide (y < i)) := by
          apply tabB_congr
          intro j hj
          have h8 : (List.replicate n (-1 : Int)).contains (j : Int) = false := by
            cases hc : (List.replicate n (-1 : Int)).contains (j : Int) with
            | false => rfl
            | true =>
              have := List.eq_of_mem_replicate (List.contains_iff_mem.1 hc)
              omega
          rw [h8]
          simp; omega
        rw [this]; exact h9)
      have KN := Lib.hid (filled_w (w := wo) (n := n) (x := -1) (by omega))
      clear hT
      go_wp2_with fail
      refine KN.out.mono ?_
      rintro en3 w3 ⟨G, rfl, hG, hT3, hb3⟩
      have HGL : Hid (w.heap.size ≤ G) := Lib.hid (by have := hZ.out.size; omega)
      have HLG : Hid (LB < G) := Lib.hid (by have := hTL.out.lt; omega)
      have HZ3 := Lib.hid (below_trans hZ.out hb3)
      have HL3 := Lib.hid (hTL.out.below hb3)
      have HT3 : Hid (BlkI w3 G (serL W (order.take 0) (List.replicate n (-1)))) := Lib.hid (by rw [List.take_zero]; exact hT3)
      clear hG hT3 hb3 hZ hTL KN
      go_wp2_with fail
      go_loopw [10] (fun iv wr => ∃ i : Nat, i ≤ m ∧ iv = .int .i64 i ∧ Hid (BlkI wr G (serL W (order.take i) (List.replicate n (-1)))) ∧ Hid (BlkT wr LB 4 (tabB k (fun y => !(serL W (order.take i) (List.replicate n (-1))).contains (y : Int)))) ∧ Hid (Below w.heap.size w wr)) (fun iv _ => m - (intOf iv).toNat)
      case atStart => exact ⟨0, Nat.zero_le _, rfl, HT3, HL3, HZ3⟩
      case round =>
        obtain ⟨i, hi, rfl, hT, hL, hZ⟩ := hrel
        obtain ⟨wo, rfl⟩ : ∃ wo : World, wo = wr := ⟨_, rfl⟩
        clear HT3 HL3 HZ3
        by_cases hin : i < m
        · have t0 : decide ((i : Int) < (m : Int)) = true := by simp; omega
          obtain ⟨z, B, off, hz, ha, hzb, hc⟩ := HO.out.at (i := i) (by have := HM.out; omega)
          subst ha
          have e1 := hc wo hZ.out
          have HE1 := Lib.hid hc
          have HLZ := Lib.hid hz
          have hzr := HLO.out.2 z (List.mem_of_getElem? hz)
          obtain ⟨ag, rfl⟩ : ∃ ag : Nat, z = (ag : Int) := ⟨z.toNat, by omega⟩
          have hag : ag < n := by omega
          clear hc hz hzb hzr
          obtain ⟨B2, off2, a2, c2, hb, hI2, -, -, hc2⟩ := HW.out.at (i := ag) (by have := HN.out; omega)
          subst hb
          have e2 := hc2 wo hZ.out
          have hl2 := HS.out.nth ag
          obtain ⟨got, hgot⟩ : ∃ x, x = serL W (order.take i) (List.replicate n (-1)) := ⟨_, rfl⟩
          have HGL2 : Hid (n = got.length) := Lib.hid (by rw [hgot, serL_len]; simp)
          have hT' : Hid (BlkI wo G got) := Lib.hid (by rw [hgot]; exact hT.out)
          have hL' : Hid (BlkT wo LB 4 (tabB k (fun y => !got.contains (y : Int)))) := Lib.hid (by rw [hgot]; exact hL.out)
          have hrg : ∀ x ∈ nthL W ag, 0 ≤ x ∧ x < (k : Int) := by
            have h9 := okLists_nth HOK.out (i := ag) (by have := HN.out; omega)
            rw [okL_false] at h9
            exact (listed_iff.1 h9).2
          have KX := Lib.hid (best_w (c := c2) (hI2.below hZ.out) rfl (by omega) hL'.out hrg)
          have hfc : firstQ (nthL W ag) (fun x => !got.contains ((x.toNat : Nat) : Int)) = firstQ (nthL W ag) (fun x => !got.contains x) := first_congr (fun x hx => by rw [show ((x.toNat : Nat) : Int) = x by have := hrg x hx; omega])
          rw [hfc] at KX
          obtain ⟨fq, hfq⟩ : ∃ x, x = firstQ (nthL W ag) (fun x => !got.contains x) := ⟨_, rfl⟩
          have HFQ : Hid (fq = -1 ∨ (0 ≤ fq ∧ fq < k)) := Lib.hid (by
            rw [hfq]
            rcases first_mem (l := nthL W ag) (pb := fun x => !got.contains x) with e | ⟨e, _⟩
            · exact Or.inl e
            · exact Or.inr (hrg _ e))
          have HSU : Hid (serL W (order.take (i + 1)) (List.replicate n (-1)) = got.set ag fq) := Lib.hid (by rw [serL_succ HLZ.out, ← hgot, hfq]; rfl)
          have HFR : Hid (got[ag]? = some (-1)) := Lib.hid (by rw [hgot]; exact serL_fresh HLO.out.1 HLO.out.2 HLZ.out)
          obtain ⟨l2, hl2'⟩ : ∃ x, x = (nthL W ag).length := ⟨_, rfl⟩
          rw [← hfq, ← hl2'] at KX
          rw [← hl2'] at e2
          clear hI2 hc2 hl2 hl2' hgot hT hL hfc hfq hrg
          go_wp2_with fail
          refine KX.out.mono ?_
          rintro en4 w4 ⟨rfl, rfl⟩
          clear KX e2
          go_wp2_with ((with_reducible refine at_store ?_); refine wpList_store_int rfl (.tmp 46) (.tmp 45) rfl G ag rfl fq rfl got hT'.out (by have := HGL2.out; omega) ?_; intro w5 h5 on5; refine halt ?_)
          refine go_on ?_
          have hT5 : Hid (BlkI w5 G (serL W (order.take (i + 1)) (List.replicate n (-1)))) := Lib.hid (by rw [HSU.out]; exact h5)
          have hL5 : Hid (BlkT w5 LB 4 (tabB k (fun y => !got.contains (y : Int)))) := Lib.hid (hL'.out.other on5 (by have := HLG.out; omega))
          have hZ5 : Hid (Below w.heap.size w w5) := Lib.hid (below_only hZ.out on5 HGL.out)
          clear h5 on5 hT' hL' hZ e1
          by_cases hf0 : fq = -1
          · subst hf0
            have t2 : decide ((-1 : Int) ≥ 0) = false := by rfl
            have hL9 : Hid (BlkT w5 LB 4 (tabB k (fun y => !(serL W (order.take (i + 1)) (List.replicate n (-1))).contains (y : Int)))) := Lib.hid (by rw [HSU.out, set_same HFR.out]; exact hL5.out)
            go_wp2_with fail
            go_roundw
            case rel => exact ⟨i + 1, by omega, by go_num, hT5, hL9, hZ5⟩
            case measure => simp [intOf]; omega
          · obtain ⟨j, rfl⟩ : ∃ j : Nat, fq = (j : Int) := ⟨fq.toNat, by have := HFQ.out; omega⟩
            have hjk : j < k := by have := HFQ.out; omega
            have t2 : decide ((j : Int) ≥ 0) = true := by simp
            clear hf0
            go_wp2_with ((with_reducible refine at_store ?_); refine wpList_store_bool rfl (.tmp 51) (.const (.bool false)) rfl LB j rfl false rfl _ _ hL5.out (by rw [tabB_len]; exact hjk) ?_; intro w6 h6 on6; refine halt ?_)
            refine go_on ?_
            have hT6 : Hid (BlkI w6 G (serL W (order.take (i + 1)) (List.replicate n (-1)))) := Lib.hid (hT5.out.other on6 (by have := HLG.out; omega))
            have hL6 : Hid (BlkT w6 LB 4 (tabB k (fun y => !(serL W (order.take (i + 1)) (List.replicate n (-1))).contains (y : Int)))) := Lib.hid (by rw [HSU.out, ← left_set HFR.out]; exact h6)
            have hZ6 : Hid (Below w.heap.size w w6) := Lib.hid (below_only hZ5.out on6 HLB.out)
            clear h6 on6 hT5 hL5 hZ5
            go_wp2_with fail
            go_roundw
            case rel => exact ⟨i + 1, by omega, by go_num, hT6, hL6, hZ6⟩
            case measure => simp [intOf]; omega
        · have t0 : decide ((i : Int) < (m : Int)) = false := by simp; omega
          have HT9 : Hid (BlkI wo G (serL W order (List.replicate n (-1)))) := Lib.hid (by
            have := hT.out
            rwa [List.take_of_length_le (by have := HM.out; omega)] at this)
          clear hT hL
          go_wp2_with fail
          go_ret
          exact ⟨⟨G, rfl, HGL.out, HT9.out⟩, hZ.out⟩
end Go.Proofs.Ytomnnickiljkgaa
