/- Are all lists right? Both sides'; lists of equal numbers. -/
import Derived.Test.YtomnnickiljkgaaHd
namespace Go.Proofs.Ytomnnickiljkgaa
open Go.RowKit
attribute [local go_sem ↓] Go.wp_at_zero Go.wp_at_succ

/-- Not many lists, of not many numbers. -/
def SmallL (L : List (List Int)) : Prop := L.length ≤ 12 ∧ ∀ l ∈ L, l.length ≤ 12
theorem SmallL.nth {L : List (List Int)} (h : SmallL L) (i : Nat) : (nthL L i).length ≤ 12 := by
  unfold nthL
  cases hp : L[i]? with
  | none => simp
  | some l => exact h.2 l (List.mem_of_getElem? hp)
theorem nthL_get {L : List (List Int)} {i : Nat} (h : i < L.length) : L[i]? = some (nthL L i) := by
  unfold nthL
  rw [List.getElem?_eq_getElem h]; rfl
def okL (n : Nat) (tot : Bool) (l : List Int) : Bool := (!tot || decide (l.length = n)) && listedQ n l
def okLists (n : Nat) (tot : Bool) (L : List (List Int)) : Bool := L.all (okL n tot)
theorem okLists_yes {n : Nat} {tot : Bool} {L : List (List Int)} (h : ∀ i, i < L.length → okL n tot (nthL L i) = true) : okLists n tot L = true := by
  unfold okLists
  rw [List.all_eq_true]
  intro l hl
  obtain ⟨i, hi⟩ := List.getElem?_of_mem hl
  have := h i (List.getElem?_eq_some_iff.1 hi).1
  rwa [nthL_some hi] at this
theorem okLists_no {n : Nat} {tot : Bool} {L : List (List Int)} {i : Nat} (hi : i < L.length) (h : okL n tot (nthL L i) = false) : okLists n tot L = false := by
  cases hh : okLists n tot L with
  | false => rfl
  | true =>
    unfold okLists at hh
    have := List.all_eq_true.1 hh _ (List.mem_of_getElem? (nthL_get hi))
    rw [h] at this; cases this
theorem okLists_nth {n : Nat} {tot : Bool} {L : List (List Int)} (h : okLists n tot L = true) {i : Nat} (hi : i < L.length) : okL n tot (nthL L i) = true := by
  unfold okLists at h
  exact List.all_eq_true.1 h _ (List.mem_of_getElem? (nthL_get hi))
/-- What is wrong with lists. -/
def errC (most : Nat) (z : Int) (tot : Bool) (L : List (List Int)) : Int := if L.length > most ∨ z < 0 ∨ z > 8 then 1 else if okLists z.toNat tot L = true then 0 else 70
theorem errC_big {most : Nat} {z : Int} {tot : Bool} {L : List (List Int)} (h : L.length > most ∨ z < 0 ∨ z > 8) : errC most z tot L = 1 := by unfold errC; rw [if_pos h]
theorem errC_ok {most : Nat} {z : Int} {tot : Bool} {L : List (List Int)} (h : ¬ (L.length > most ∨ z < 0 ∨ z > 8)) (h2 : okLists z.toNat tot L = true) : errC most z tot L = 0 := by unfold errC; rw [if_neg h, if_pos h2]
theorem errC_no {most : Nat} {z : Int} {tot : Bool} {L : List (List Int)} (h : ¬ (L.length > most ∨ z < 0 ∨ z > 8)) (h2 : okLists z.toNat tot L = false) : errC most z tot L = 70 := by unfold errC; rw [if_neg h, if_neg (by rw [h2]; simp)]

set_option maxRecDepth 8000 in
set_option maxHeartbeats 4000000 in
theorem checkR_w {w : World} {k m c : Nat} {z : Int} {a : Option Addr} {L : List (List Int)} (h : RowsF w a L) (hs : SmallL L) (hm : m = L.length) :
    Calls Try.prog 42 #[.slice a m c, .int .i64 (k : Nat), .int .i64 z, .func (.func 48) #[] #[]] w fun e w' => e = .returned (.int .i64 (errC k z false L)) ∧ Below w.heap.size w w' := by
  have HI := Lib.hid h
  have HM := Lib.hid hm
  have HS := Lib.hid hs
  have hm12 : m ≤ 12 := by rw [hm]; exact hs.1
  clear h hm hs
  by_cases hbig : m > k
  · have HE : Hid (errC k z false L = 1) := Lib.hid (errC_big (Or.inl (by have := HM.out; omega)))
    have t1 : decide ((k : Int) < (m : Int)) = true := by simp; omega
    have t2 : decide ((m : Int) > (k : Int)) = true := by simp; omega
    go_enter Try.func42, Try.ntmps42
    go_wp2_with fail
    go_ret
    exact ⟨by rw [HE.out]; rfl, Below.refl _ _⟩
  have t1 : decide ((k : Int) < (m : Int)) = false := by simp; omega
  have t2 : decide ((m : Int) > (k : Int)) = false := by simp; omega
  by_cases hz0 : z < 0
  · have HE : Hid (errC k z false L = 1) := Lib.hid (errC_big (Or.inr (Or.inl hz0)))
    have t3 : decide (z < 0) = true := by simpa using hz0
    go_enter Try.func42, Try.ntmps42
    go_wp2_with fail
    go_ret
    exact ⟨by rw [HE.out]; rfl, Below.refl _ _⟩
  have t3 : decide (z < 0) = false := by simpa using hz0
  by_cases hz8 : z > 8
  · have HE : Hid (errC k z false L = 1) := Lib.hid (errC_big (Or.inr (Or.inr hz8)))
    have t4 : decide (z > 8) = true := by simpa using hz8
    have t5 : decide (8 < z) = true := by simpa using hz8
    go_enter Try.func42, Try.ntmps42
    go_wp2_with fail
    go_ret
    exact ⟨by rw [HE.out]; rfl, Below.refl _ _⟩
  have t4 : decide (z > 8) = false := by simpa using hz8
  have t5 : decide (8 < z) = false := by simpa using hz8
  obtain ⟨n, rfl⟩ : ∃ n : Nat, z = (n : Int) := ⟨z.toNat, by omega⟩
  have hn8 : n ≤ 8 := by omega
  have HG : Hid (¬ (L.length > k ∨ (n : Int) < 0 ∨ (n : Int) > 8)) := Lib.hid (by have := HM.out; omega)
  go_enter Try.func42, Try.ntmps42
  go_wp2_with fail
  go_loopw [25] (fun iv wr => ∃ i : Nat, i ≤ m ∧ iv = .int .i64 i ∧ Hid (Below w.heap.size w wr) ∧ Hid (∀ j, j < i → okL n false (nthL L j) = true)) (fun iv _ => m - (intOf iv).toNat)
  case atStart => exact ⟨0, Nat.zero_le _, rfl, Lib.hid (Below.refl _ _), Lib.hid (fun j hj => absurd hj (Nat.not_lt_zero _))⟩
  case round =>
    obtain ⟨i, hi, rfl, hZ, hok⟩ := hrel
    obtain ⟨wo, rfl⟩ : ∃ wo : World, wo = wr := ⟨_, rfl⟩
    by_cases hin : i < m
    · have t6 : decide ((i : Int) < (m : Int)) = true := by simp; omega
      obtain ⟨B, off, a', c', ha, hI, hlc, hl9, hc⟩ := HI.out.at (i := i) (by have := HM.out; omega)
      subst ha
      have e1 := hc wo hZ.out
      have hl12 := HS.out.nth i
      have KR : Hid (Calls Try.prog 48 #[.slice a' (nthL L i).length c', .int .i64 (n : Nat)] wo fun e w' => e = .returned (.bool (listedQ n (nthL L i))) ∧ Below wo.heap.size wo w') := Lib.hid (right_w (hI.below hZ.out) rfl hn8 (by omega))
      obtain ⟨lb, hlb⟩ : ∃ lb, lb = (listedQ n (nthL L i)) := ⟨_, rfl⟩
      have HLB : Hid (okL n false (nthL L i) = lb) := Lib.hid (by rw [hlb]; unfold okL; simp)
      rw [← hlb] at KR
      obtain ⟨ln, hln⟩ : ∃ ln, ln = (nthL L i).length := ⟨_, rfl⟩
      rw [← hln] at KR e1
      clear hc hI hlc hl9 hl12 hlb hln
      go_wp2_with fail
      refine KR.out.mono ?_
      rintro en2 w2 ⟨rfl, hb2⟩
      have HZ2 := Lib.hid (below_trans hZ.out hb2)
      clear hb2
      cases lb with
      | false =>
        have HE : Hid (errC k (n : Int) false L = 70) := Lib.hid (errC_no HG.out (by rw [Int.toNat_natCast]; exact okLists_no (by have := HM.out; omega) HLB.out))
        go_wp2_with fail
        go_ret
        exact ⟨by rw [HE.out]; rfl, HZ2.out⟩
      | true =>
        have HOK9 : Hid (∀ j, j < i + 1 → okL n false (nthL L j) = true) := Lib.hid (fun j hj => by
          by_cases hji : j = i
          · rw [hji, HLB.out]
          · exact hok.out j (by omega))
        go_wp2_with fail
        go_roundw
        case rel => exact ⟨i + 1, by omega, by go_num, HZ2, HOK9⟩
        case measure => simp [intOf]; omega
    · have t6 : decide ((i : Int) < (m : Int)) = false := by simp; omega
      have HE : Hid (errC k (n : Int) false L = 0) := Lib.hid (errC_ok HG.out (by rw [Int.toNat_natCast]; exact okLists_yes (fun j hj => hok.out j (by have := HM.out; omega))))
      go_wp2_with fail
      go_ret
      exact ⟨by rw [HE.out]; rfl, hZ.out⟩

set_option maxRecDepth 8000 in
set_option maxHeartbeats 4000000 in
theorem checkT_w {w : World} {k m c : Nat} {z : Int} {a : Option Addr} {L : List (List Int)} (h : RowsF w a L) (hs : SmallL L) (hm : m = L.length) :
    Calls Try.prog 42 #[.slice a m c, .int .i64 (k : Nat), .int .i64 z, .func (.func 43) #[] #[]] w fun e w' => e = .returned (.int .i64 (errC k z true L)) ∧ Below w.heap.size w w' := by
  have HI := Lib.hid h
  have HM := Lib.hid hm
  have HS := Lib.hid hs
  have hm12 : m ≤ 12 := by rw [hm]; exact hs.1
  clear h hm hs
  by_cases hbig : m > k
  · have HE : Hid (errC k z true L = 1) := Lib.hid (errC_big (Or.inl (by have := HM.out; omega)))
    have t1 : decide ((k : Int) < (m : Int)) = true := by simp; omega
    have t2 : decide ((m : Int) > (k : Int)) = true := by simp; omega
    go_enter Try.func42, Try.ntmps42
    go_wp2_with fail
    go_ret
    exact ⟨by rw [HE.out]; rfl, Below.refl _ _⟩
  have t1 : decide ((k : Int) < (m : Int)) = false := by simp; omega
  have t2 : decide ((m : Int) > (k : Int)) = false := by simp; omega
  by_cases hz0 : z < 0
  · have HE : Hid (errC k z true L = 1) := Lib.hid (errC_big (Or.inr (Or.inl hz0)))
    have t3 : decide (z < 0) = true := by simpa using hz0
    go_enter Try.func42, Try.ntmps42
    go_wp2_with fail
    go_ret
    exact ⟨by rw [HE.out]; rfl, Below.refl _ _⟩
  have t3 : decide (z < 0) = false := by simpa using hz0
  by_cases hz8 : z > 8
  · have HE : Hid (errC k z true L = 1) := Lib.hid (errC_big (Or.inr (Or.inr hz8)))
    have t4 : decide (z > 8) = true := by simpa using hz8
    have t5 : decide (8 < z) = true := by simpa using hz8
    go_enter Try.func42, Try.ntmps42
    go_wp2_with fail
    go_ret
    exact ⟨by rw [HE.out]; rfl, Below.refl _ _⟩
  have t4 : decide (z > 8) = false := by simpa using hz8
  have t5 : decide (8 < z) = false := by simpa using hz8
  obtain ⟨n, rfl⟩ : ∃ n : Nat, z = (n : Int) := ⟨z.toNat, by omega⟩
  have hn8 : n ≤ 8 := by omega
  have HG : Hid (¬ (L.length > k ∨ (n : Int) < 0 ∨ (n : Int) > 8)) := Lib.hid (by have := HM.out; omega)
  go_enter Try.func42, Try.ntmps42
  go_wp2_with fail
  go_loopw [25] (fun iv wr => ∃ i : Nat, i ≤ m ∧ iv = .int .i64 i ∧ Hid (Below w.heap.size w wr) ∧ Hid (∀ j, j < i → okL n true (nthL L j) = true)) (fun iv _ => m - (intOf iv).toNat)
  case atStart => exact ⟨0, Nat.zero_le _, rfl, Lib.hid (Below.refl _ _), Lib.hid (fun j hj => absurd hj (Nat.not_lt_zero _))⟩
  case round =>
    obtain ⟨i, hi, rfl, hZ, hok⟩ := hrel
    obtain ⟨wo, rfl⟩ : ∃ wo : World, wo = wr := ⟨_, rfl⟩
    by_cases hin : i < m
    · have t6 : decide ((i : Int) < (m : Int)) = true := by simp; omega
      obtain ⟨B, off, a', c', ha, hI, hlc, hl9, hc⟩ := HI.out.at (i := i) (by have := HM.out; omega)
      subst ha
      have e1 := hc wo hZ.out
      have hl12 := HS.out.nth i
      have KR : Hid (Calls Try.prog 43 #[.slice a' (nthL L i).length c', .int .i64 (n : Nat)] wo fun e w' => e = .returned (.bool (decide ((nthL L i).length = n) && listedQ n (nthL L i))) ∧ Below wo.heap.size wo w') := Lib.hid (total_w (hI.below hZ.out) rfl hn8 (by omega))
      obtain ⟨lb, hlb⟩ : ∃ lb, lb = (decide ((nthL L i).length = n) && listedQ n (nthL L i)) := ⟨_, rfl⟩
      have HLB : Hid (okL n true (nthL L i) = lb) := Lib.hid (by rw [hlb]; unfold okL; simp)
      rw [← hlb] at KR
      obtain ⟨ln, hln⟩ : ∃ ln, ln = (nthL L i).length := ⟨_, rfl⟩
      rw [← hln] at KR e1
      clear hc hI hlc hl9 hl12 hlb hln
      go_wp2_with fail
      refine KR.out.mono ?_
      rintro en2 w2 ⟨rfl, hb2⟩
      have HZ2 := Lib.hid (below_trans hZ.out hb2)
      clear hb2
      cases lb with
      | false =>
        have HE : Hid (errC k (n : Int) true L = 70) := Lib.hid (errC_no HG.out (by rw [Int.toNat_natCast]; exact okLists_no (by have := HM.out; omega) HLB.out))
        go_wp2_with fail
        go_ret
        exact ⟨by rw [HE.out]; rfl, HZ2.out⟩
      | true =>
        have HOK9 : Hid (∀ j, j < i + 1 → okL n true (nthL L j) = true) := Lib.hid (fun j hj => by
          by_cases hji : j = i
          · rw [hji, HLB.out]
          · exact hok.out j (by omega))
        go_wp2_with fail
        go_roundw
        case rel => exact ⟨i + 1, by omega, by go_num, HZ2, HOK9⟩
        case measure => simp [intOf]; omega
    · have t6 : decide ((i : Int) < (m : Int)) = false := by simp; omega
      have HE : Hid (errC k (n : Int) true L = 0) := Lib.hid (errC_ok HG.out (by rw [Int.toNat_natCast]; exact okLists_yes (fun j hj => hok.out j (by have := HM.out; omega))))
      go_wp2_with fail
      go_ret
      exact ⟨by rw [HE.out]; rfl, hZ.out⟩

set_option maxRecDepth 8000 in
set_option maxHeartbeats 4000000 in
theorem allR_w {w : World} {n m c : Nat} {a : Option Addr} {L : List (List Int)} (h : RowsF w a L) (hs : SmallL L) (hm : m = L.length) :
    Calls Try.prog 37 #[.slice a m c, .int .i64 (n : Nat), .bool false] w fun e w' => e = .returned (.bool (okLists n false L)) ∧ w = w' := by
  have HI := Lib.hid h
  have HM := Lib.hid hm
  have HS := Lib.hid hs
  have hm12 : m ≤ 12 := by rw [hm]; exact hs.1
  clear h hm hs
  obtain ⟨okb, hokb⟩ : ∃ b, b = okLists n false L := ⟨_, rfl⟩
  have HOK := Lib.hid hokb
  rw [← hokb]
  clear hokb
  go_enter Try.func37, Try.ntmps37
  go_wp2_with fail
  go_loopw [7] (fun iv wr => ∃ i : Nat, i ≤ m ∧ iv = .int .i64 i ∧ wr = w ∧ Hid (∀ j, j < i → okL n false (nthL L j) = true)) (fun iv _ => m - (intOf iv).toNat)
  case atStart => exact ⟨0, Nat.zero_le _, rfl, rfl, Lib.hid (fun j hj => absurd hj (Nat.not_lt_zero _))⟩
  case round =>
    obtain ⟨i, hi, rfl, rfl, hok⟩ := hrel
    by_cases hin : i < m
    · have t6 : decide ((i : Int) < (m : Int)) = true := by simp; omega
      obtain ⟨B, off, a', c', ha, hI, hlc, hl9, hc⟩ := HI.out.at (i := i) (by have := HM.out; omega)
      subst ha
      have e1 := hc _ (Below.refl _ _)
      have hl12 := HS.out.nth i
      have KR := Lib.hid (listed_w (n := n) (c := c') hI rfl (by omega))
      obtain ⟨lb, hlb⟩ : ∃ lb, lb = listedQ n (nthL L i) := ⟨_, rfl⟩
      have HLB := Lib.hid hlb
      rw [← hlb] at KR
      obtain ⟨ln, hln⟩ : ∃ ln, ln = (nthL L i).length := ⟨_, rfl⟩
      have HLN := Lib.hid hln
      rw [← hln] at KR e1
      clear hc hI hlc hl9 hl12 hlb hln
      go_wp2_with fail
      refine KR.out.mono ?_
      rintro en2 w2 ⟨rfl, rfl⟩
      cases lb with
      | false =>
        have HE : Hid (false = okb) := Lib.hid (by rw [HOK.out]; exact (okLists_no (i := i) (by have := HM.out; omega) (by unfold okL; rw [← HLB.out]; simp)).symm)
        go_wp2_with fail
        go_ret
        exact ⟨by rw [← HE.out]; rfl, rfl⟩
      | true =>
        have HOK9 : Hid (∀ j, j < i + 1 → okL n false (nthL L j) = true) := Lib.hid (fun j hj => by
          by_cases hji : j = i
          · rw [hji]; unfold okL; rw [← HLB.out]; rfl
          · exact hok.out j (by omega))
        go_wp2_with fail
        go_roundw
        case rel => exact ⟨i + 1, by omega, by go_num, by first | rfl | trivial, HOK9⟩
        case measure => simp [intOf]; omega
    · have t6 : decide ((i : Int) < (m : Int)) = false := by simp; omega
      have HE : Hid (true = okb) := Lib.hid (by rw [HOK.out]; exact (okLists_yes (fun j hj => hok.out j (by have := HM.out; omega))).symm)
      go_wp2_with fail
      go_ret
      exact ⟨by rw [← HE.out]; rfl, rfl⟩

set_option maxRecDepth 8000 in
set_option maxHeartbeats 4000000 in
theorem allT_w {w : World} {n m c : Nat} {a : Option Addr} {L : List (List Int)} (h : RowsF w a L) (hs : SmallL L) (hm : m = L.length) :
    Calls Try.prog 37 #[.slice a m c, .int .i64 (n : Nat), .bool true] w fun e w' => e = .returned (.bool (okLists n true L)) ∧ w = w' := by
  have HI := Lib.hid h
  have HM := Lib.hid hm
  have HS := Lib.hid hs
  have hm12 : m ≤ 12 := by rw [hm]; exact hs.1
  clear h hm hs
  obtain ⟨okb, hokb⟩ : ∃ b, b = okLists n true L := ⟨_, rfl⟩
  have HOK := Lib.hid hokb
  rw [← hokb]
  clear hokb
  go_enter Try.func37, Try.ntmps37
  go_wp2_with fail
  go_loopw [7] (fun iv wr => ∃ i : Nat, i ≤ m ∧ iv = .int .i64 i ∧ wr = w ∧ Hid (∀ j, j < i → okL n true (nthL L j) = true)) (fun iv _ => m - (intOf iv).toNat)
  case atStart => exact ⟨0, Nat.zero_le _, rfl, rfl, Lib.hid (fun j hj => absurd hj (Nat.not_lt_zero _))⟩
  case round =>
    obtain ⟨i, hi, rfl, rfl, hok⟩ := hrel
    by_cases hin : i < m
    · have t6 : decide ((i : Int) < (m : Int)) = true := by simp; omega
      obtain ⟨B, off, a', c', ha, hI, hlc, hl9, hc⟩ := HI.out.at (i := i) (by have := HM.out; omega)
      subst ha
      have e1 := hc _ (Below.refl _ _)
      have hl12 := HS.out.nth i
      have KR := Lib.hid (listed_w (n := n) (c := c') hI rfl (by omega))
      obtain ⟨lb, hlb⟩ : ∃ lb, lb = listedQ n (nthL L i) := ⟨_, rfl⟩
      have HLB := Lib.hid hlb
      rw [← hlb] at KR
      obtain ⟨ln, hln⟩ : ∃ ln, ln = (nthL L i).length := ⟨_, rfl⟩
      have HLN := Lib.hid hln
      rw [← hln] at KR e1
      clear hc hI hlc hl9 hl12 hlb hln
      go_wp2_with fail
      refine KR.out.mono ?_
      rintro en2 w2 ⟨rfl, rfl⟩
      cases lb with
      | false =>
        have HE : Hid (false = okb) := Lib.hid (by rw [HOK.out]; exact (okLists_no (i := i) (by have := HM.out; omega) (by unfold okL; rw [← HLB.out]; simp)).symm)
        go_wp2_with fail
        go_ret
        exact ⟨by rw [← HE.out]; rfl, rfl⟩
      | true =>
        by_cases hln : ln = n
        · have HOK9 : Hid (∀ j, j < i + 1 → okL n true (nthL L j) = true) := Lib.hid (fun j hj => by
            by_cases hji : j = i
            · rw [hji]; unfold okL; rw [← HLB.out, ← HLN.out]; simpa using hln
            · exact hok.out j (by omega))
          subst hln
          go_wp2_with fail
          go_roundw
          case rel => exact ⟨i + 1, by omega, by go_num, by first | rfl | trivial, HOK9⟩
          case measure => simp [intOf]; omega
        · have u1 : ((ln : Int) == (n : Int)) = false := by simp; omega
          have u2 : ((ln : Int) != (n : Int)) = true := by simp; omega
          have HE : Hid (false = okb) := Lib.hid (by rw [HOK.out]; exact (okLists_no (i := i) (by have := HM.out; omega) (by unfold okL; rw [← HLB.out, ← HLN.out]; simpa using hln)).symm)
          go_wp2_with fail
          go_ret
          exact ⟨by rw [← HE.out]; rfl, rfl⟩
    · have t6 : decide ((i : Int) < (m : Int)) = false := by simp; omega
      have HE : Hid (true = okb) := Lib.hid (by rw [HOK.out]; exact (okLists_yes (fun j hj => hok.out j (by have := HM.out; omega))).symm)
      go_wp2_with fail
      go_ret
      exact ⟨by rw [← HE.out]; rfl, rfl⟩

/-- What is wrong with two sides' lists. -/
def errS (P R : List (List Int)) : Int := if P.length > 8 ∨ R.length > 8 then 1 else if okLists R.length false P = true ∧ okLists P.length false R = true then 0 else 70
theorem okL_false {n : Nat} {l : List Int} : okL n false l = listedQ n l := by unfold okL; simp
theorem errS_ok {P R : List (List Int)} (h : errS P R = 0) : sidesQ P R ∧ P.length ≤ 8 ∧ R.length ≤ 8 := by
  unfold errS at h
  split at h
  · cases h
  · rename_i h0
    split at h
    · rename_i h1
      refine ⟨⟨fun l hl => ?_, fun l hl => ?_⟩, by omega, by omega⟩
      · have := List.all_eq_true.1 h1.1 l hl
        rwa [okL_false] at this
      · have := List.all_eq_true.1 h1.2 l hl
        rwa [okL_false] at this
    · cases h
theorem errS_cases (P R : List (List Int)) : errS P R = 0 ∨ errS P R = 1 ∨ errS P R = 70 := by
  unfold errS
  split
  · exact Or.inr (Or.inl rfl)
  · split
    · exact Or.inl rfl
    · exact Or.inr (Or.inr rfl)
set_option maxRecDepth 8000 in
set_option maxHeartbeats 4000000 in
theorem checkSides_w {w : World} {m c m2 c2 : Nat} {a a2 : Option Addr} {P R : List (List Int)} (h : RowsF w a P) (hs : SmallL P) (hm : m = P.length) (h2 : RowsF w a2 R) (hs2 : SmallL R) (hm2 : m2 = R.length) :
    Calls Try.prog 31 #[.slice a m c, .slice a2 m2 c2] w fun e w' => e = .returned (.int .i64 (errS P R)) ∧ Below w.heap.size w w' := by
  have K1 := Lib.hid (checkR_w (k := 8) (c := c) (z := (m2 : Int)) h hs hm)
  have K2 := Lib.hid (fun w' (hb : Below w.heap.size w w') => checkR_w (k := 8) (c := c2) (z := (m : Int)) (h2.below hb) hs2 hm2)
  obtain ⟨x, hx⟩ : ∃ x, x = errC 8 (m2 : Int) false P := ⟨_, rfl⟩
  obtain ⟨y, hy⟩ : ∃ y, y = errC 8 (m : Int) false R := ⟨_, rfl⟩
  have HE : Hid (errS P R = if x = 0 then y else x) := Lib.hid (by
    rw [hx, hy]
    unfold errS errC
    rw [hm, hm2, Int.toNat_natCast, Int.toNat_natCast]
    by_cases g1 : P.length > 8 ∨ R.length > 8
    · rw [if_pos g1, if_pos (show P.length > 8 ∨ (R.length : Int) < 0 ∨ (R.length : Int) > 8 by omega)]; rfl
    · rw [if_neg g1, if_neg (show ¬ (P.length > 8 ∨ (R.length : Int) < 0 ∨ (R.length : Int) > 8) by omega), if_neg (show ¬ (R.length > 8 ∨ (P.length : Int) < 0 ∨ (P.length : Int) > 8) by omega)]
      cases okLists R.length false P <;> cases okLists P.length false R <;> simp)
  rw [← hx] at K1
  rw [← hy] at K2
  rw [HE.out]
  clear h hs hm h2 hs2 hm2 hx hy HE
  go_enter Try.func31, Try.ntmps31
  go_wp2_with fail
  refine K1.out.mono ?_
  rintro en2 w2 ⟨rfl, hb2⟩
  have HZ2 := Lib.hid hb2
  clear hb2
  by_cases hx0 : x = 0
  · subst hx0
    go_wp2_with fail
    refine (K2.out _ HZ2.out).mono ?_
    rintro en3 w3 ⟨rfl, hb3⟩
    have HZ3 := Lib.hid (below_trans HZ2.out hb3)
    clear hb3
    go_wp2_with fail
    go_ret
    exact ⟨by rfl, HZ3.out⟩
  · have u1 : (x == 0) = false := by simpa using hx0
    have u2 : (x != 0) = true := by simpa using hx0
    go_wp2_with fail
    go_ret
    exact ⟨by rfl, HZ2.out⟩
set_option maxRecDepth 8000 in
set_option maxHeartbeats 4000000 in
theorem rsides_w {w : World} {m c m2 c2 : Nat} {a a2 : Option Addr} {P R : List (List Int)} (h : RowsF w a P) (hs : SmallL P) (hm : m = P.length) (h2 : RowsF w a2 R) (hs2 : SmallL R) (hm2 : m2 = R.length) :
    Calls Try.prog 26 #[.slice a m c, .slice a2 m2 c2] w fun e w' => e = .returned (.int .i64 (errS P R)) ∧ w = w' := by
  have K1 := Lib.hid (allR_w (n := m2) (c := c) h hs hm)
  have K2 := Lib.hid (allR_w (n := m) (c := c2) h2 hs2 hm2)
  obtain ⟨x, hx⟩ : ∃ x, x = okLists m2 false P := ⟨_, rfl⟩
  obtain ⟨y, hy⟩ : ∃ y, y = okLists m false R := ⟨_, rfl⟩
  have hm12 := hs.1
  have hm13 := hs2.1
  rw [← hm] at hm12
  rw [← hm2] at hm13
  have HE : Hid (errS P R = if m > 8 ∨ m2 > 8 then 1 else if x = true ∧ y = true then 0 else 70) := Lib.hid (by rw [hx, hy, hm, hm2]; rfl)
  rw [← hx] at K1
  rw [← hy] at K2
  obtain ⟨r, hr⟩ : ∃ r, r = errS P R := ⟨_, rfl⟩
  rw [← hr] at HE ⊢
  clear h hs hm h2 hs2 hm2 hx hy hr
  by_cases g1 : m > 8
  · have HR : Hid (r = 1) := Lib.hid (by rw [HE.out, if_pos (Or.inl g1)])
    have t1 : decide ((8 : Int) < (m : Int)) = true := by simp; omega
    have t2 : decide ((m : Int) > 8) = true := by simp; omega
    go_enter Try.func26, Try.ntmps26
    go_wp2_with fail
    go_ret
    exact ⟨by rw [HR.out]; rfl, rfl⟩
  have t1 : decide ((8 : Int) < (m : Int)) = false := by simp; omega
  have t2 : decide ((m : Int) > 8) = false := by simp; omega
  by_cases g2 : m2 > 8
  · have HR : Hid (r = 1) := Lib.hid (by rw [HE.out, if_pos (Or.inr g2)])
    have t3 : decide ((8 : Int) < (m2 : Int)) = true := by simp; omega
    have t4 : decide ((m2 : Int) > 8) = true := by simp; omega
    go_enter Try.func26, Try.ntmps26
    go_wp2_with fail
    go_ret
    exact ⟨by rw [HR.out]; rfl, rfl⟩
  have t3 : decide ((8 : Int) < (m2 : Int)) = false := by simp; omega
  have t4 : decide ((m2 : Int) > 8) = false := by simp; omega
  have HR : Hid (r = if x = true ∧ y = true then 0 else 70) := Lib.hid (by rw [HE.out, if_neg (by omega)])
  clear g1 g2
  go_enter Try.func26, Try.ntmps26
  go_wp2_with fail
  refine K1.out.mono ?_
  rintro en2 w2 ⟨rfl, rfl⟩
  cases x with
  | false =>
    go_wp2_with fail
    go_ret
    exact ⟨by rw [HR.out]; rfl, rfl⟩
  | true =>
    go_wp2_with fail
    refine K2.out.mono ?_
    rintro en2 w2 ⟨rfl, rfl⟩
    cases y with
    | false =>
      go_wp2_with fail
      go_ret
      exact ⟨by rw [HR.out]; rfl, rfl⟩
    | true =>
      go_wp2_with fail
      go_ret
      exact ⟨by rw [HR.out]; rfl, rfl⟩

set_option maxRecDepth 8000 in
set_option maxHeartbeats 4000000 in
theorem filled_w {w : World} {n : Nat} {x : Int} (hn : n ≤ 1000) :
    Calls Try.prog 27 #[.int .i64 (n : Nat), .int .i64 x] w fun e w' => ∃ B, e = .returned (.slice (some ⟨B, 0, none⟩) n n) ∧ w.heap.size ≤ B ∧ BlkI w' B (List.replicate n x) ∧ Below w.heap.size w w' := by
  go_enter Try.func27, Try.ntmps27
  go_wp2_with (at_make; refine wpList_make_ints rfl _ _ _ rfl Try.underlying23 info_int9 n rfl rfl (by omega) ?_; intro w2 hr2 hb2 hs2; refine halt ?_)
  refine go_on ?_
  obtain ⟨G, hG⟩ : ∃ G, G = w.heap.size := ⟨_, rfl⟩
  rw [← hG] at hr2 ⊢
  have HG := Lib.hid hG
  have HT2 : Hid (BlkI w2 G (List.replicate 0 x ++ List.replicate (n - 0) 0)) := Lib.hid hr2
  have HZ2 : Hid (Below w.heap.size w w2) := Lib.hid hb2
  clear hr2 hb2 hs2 hG
  go_wp2_with fail
  go_loopw [6] (fun iv wr => ∃ i : Nat, i ≤ n ∧ iv = .int .i64 i ∧ Hid (BlkI wr G (List.replicate i x ++ List.replicate (n - i) 0)) ∧ Hid (Below w.heap.size w wr)) (fun iv _ => n - (intOf iv).toNat)
  case atStart => exact ⟨0, Nat.zero_le _, rfl, HT2, HZ2⟩
  case round =>
    obtain ⟨i, hi, rfl, hT, hZ⟩ := hrel
    obtain ⟨wo, rfl⟩ : ∃ wo : World, wo = wr := ⟨_, rfl⟩
    by_cases hin : i < n
    · have t0 : decide ((i : Int) < (n : Int)) = true := by simp; omega
      have e2 : wo.cell? ⟨G, i, none⟩ = some (.int .i64 0) := hT.out.cell (by
        rw [List.getElem?_append_right (by simp)]
        rw [List.length_replicate, List.getElem?_replicate, if_pos (by omega)])
      have z0 := hT.out.frozen i
      have HT9 : Hid (BlkI (wo.setCell ⟨G, i, none⟩ (.int .i64 x)) G (List.replicate (i + 1) x ++ List.replicate (n - (i + 1)) 0)) := Lib.hid (by
        have h9 := hT.out.setCell i x
        have h8 : (List.replicate i x ++ List.replicate (n - i) 0).set i x = List.replicate (i + 1) x ++ List.replicate (n - (i + 1)) 0 := by
          apply List.ext_getElem?
          intro j
          by_cases hji : j = i
          · subst hji
            rw [List.getElem?_set_self (by simp; omega), List.getElem?_append_left (by simp), List.getElem?_replicate, if_pos (by omega)]
          · rw [List.getElem?_set_ne (fun e => hji e.symm)]
            by_cases hj2 : j < i
            · rw [List.getElem?_append_left (by simpa using hj2), List.getElem?_append_left (by simp; omega), List.getElem?_replicate, List.getElem?_replicate, if_pos hj2, if_pos (by omega)]
            · rw [List.getElem?_append_right (by simp; omega), List.getElem?_append_right (by simp; omega), List.getElem?_replicate, List.getElem?_replicate, List.length_replicate, List.length_replicate]
              by_cases hj3 : j < n
              · rw [if_pos (by omega), if_pos (by omega)]
              · rw [if_neg (by omega), if_neg (by omega)]
        rw [h8] at h9; exact h9)
      have HZ9 : Hid (Below w.heap.size w (wo.setCell ⟨G, i, none⟩ (.int .i64 x))) := Lib.hid (below_only hZ.out ((Only.refl G wo).setCell i _) (by rw [HG.out]; exact Nat.le_refl _))
      go_wp2_with fail
      go_roundw
      case rel => exact ⟨i + 1, by omega, by go_num, HT9, HZ9⟩
      case measure => simp [intOf]; omega
    · have t0 : decide ((i : Int) < (n : Int)) = false := by simp; omega
      have HT9 : Hid (BlkI wo G (List.replicate n x)) := Lib.hid (by
        have h9 := hT.out
        rw [show i = n by omega, Nat.sub_self] at h9
        simpa using h9)
      go_wp2_with fail
      go_ret
      exact ⟨G, rfl, by rw [HG.out]; exact Nat.le_refl _, HT9.out, hZ.out⟩
end Go.Proofs.Ytomnnickiljkgaa
