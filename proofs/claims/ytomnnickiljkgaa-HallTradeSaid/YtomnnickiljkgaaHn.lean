/- Choices, one behind the other: what each takes. -/
import Derived.Test.YtomnnickiljkgaaHm
import Derived.StillTailTactics
namespace Go.Proofs.Ytomnnickiljkgaa
open Go.RowKit
attribute [local go_sem ↓] Go.wp_at_zero Go.wp_at_succ

/-- The first of a list that is left, or none. -/
def firstQ (l : List Int) (pb : Int → Bool) : Int := (l.find? pb).getD (-1)
/-- Where the first one that is left stands, or nowhere. -/
def FirstI (l : List Int) (pb : Int → Bool) (z : Int) : Prop := (z = -1 ∧ firstQ l pb = -1 ∧ ∀ x ∈ l, pb x = false) ∨ ∃ i : Nat, z = (i : Int) ∧ l[i]? = some (firstQ l pb) ∧ pb (firstQ l pb) = true
theorem first_at {l : List Int} {pb : Int → Bool} {i : Nat} {x : Int} (h : l[i]? = some x) (hp : pb x = true) (hno : ∀ (j : Nat) (z : Int), j < i → l[j]? = some z → pb z = false) : firstQ l pb = x := by
  have : l.find? pb = some x := by
    rw [List.find?_eq_some_iff_getElem]
    obtain ⟨hi, he⟩ := List.getElem?_eq_some_iff.1 h
    refine ⟨hp, i, hi, he, fun j hj => ?_⟩
    rw [hno j _ hj (List.getElem?_eq_getElem (by omega))]
    rfl
  unfold firstQ
  rw [this]; rfl
theorem first_no {l : List Int} {pb : Int → Bool} (h : ∀ x ∈ l, pb x = false) : firstQ l pb = -1 := by
  have : l.find? pb = none := by
    rw [List.find?_eq_none]
    intro x hx
    rw [h x hx]; simp
  unfold firstQ
  rw [this]; rfl
theorem first_mem {l : List Int} {pb : Int → Bool} : firstQ l pb = -1 ∨ (firstQ l pb ∈ l ∧ pb (firstQ l pb) = true) := by
  unfold firstQ
  cases h : l.find? pb with
  | none => exact Or.inl rfl
  | some x => exact Or.inr ⟨List.mem_of_find?_eq_some h, List.find?_some h⟩
theorem first_congr {l : List Int} {pb qb : Int → Bool} (h : ∀ x ∈ l, pb x = qb x) : firstQ l pb = firstQ l qb := by
  unfold firstQ
  congr 1
  induction l with
  | nil => rfl
  | cons a l ih =>
    rw [List.find?_cons, List.find?_cons, h a (List.mem_cons_self ..), ih (fun x hx => h x (List.mem_cons_of_mem _ hx))]

set_option maxRecDepth 8000 in
set_option maxHeartbeats 2000000 in
theorem idx_chosen {w : World} {a : Option Addr} {m c : Nat} {l : List Int} {pb : Int → Bool} {p : Nat} (h : IntsF w a l) (hm : m = l.length) (hm9 : m ≤ 1000) (hF : ∀ (z : Int), z ∈ l → Calls Try.prog 61 (#[.int .i64 z] ++ #[.pointer (some ⟨p, 0, none⟩)]) w fun e w'' => e = .returned (.bool (pb z)) ∧ w = w'') :
    Calls Try.prog 62 #[.slice a m c, .func (.func 61) #[] #[.pointer (some ⟨p, 0, none⟩)]] w fun e w' => (∃ z, e = .returned (.int .i64 z) ∧ FirstI l pb z) ∧ w = w' := by
  have HI := Lib.hid h
  have HM := Lib.hid hm
  have KF := Lib.hid hF
  clear h hm hF
  go_enter Try.func62, Try.ntmps62
  go_wp2_with fail
  go_loopw [8] (fun iv wr => ∃ i : Nat, i ≤ m ∧ iv = .int .i64 i ∧ wr = w ∧ Hid (∀ (j : Nat) (z : Int), j < i → l[j]? = some z → pb z = false)) (fun iv _ => m - (intOf iv).toNat)
  case atStart => exact ⟨0, Nat.zero_le _, rfl, rfl, Lib.hid (fun j z hj => absurd hj (Nat.not_lt_zero _))⟩
  case round =>
    obtain ⟨i, hi, rfl, rfl, hno⟩ := hrel
    by_cases hin : i < m
    · have t0 : decide ((i : Int) < (m : Int)) = true := by simp; omega
      obtain ⟨z, B, off, hz, ha, hzb, hc⟩ := HI.out.at (i := i) (by have := HM.out; omega)
      subst ha
      have e1 := hc _ (Below.refl _ _)
      have HLZ := Lib.hid hz
      clear hc hz
      obtain ⟨bz, hbz⟩ : ∃ b, b = pb z := ⟨_, rfl⟩
      have HBZ := Lib.hid hbz
      go_wp2_with fail
      refine (KF.out z (List.mem_of_getElem? HLZ.out)).mono ?_
      rintro en2 w2 ⟨rfl, rfl⟩
      rw [← hbz]
      clear hbz
      cases bz with
      | true =>
        have HE : Hid (FirstI l pb (i : Int)) := Lib.hid (by
          have h1 := first_at HLZ.out HBZ.out.symm hno.out
          exact Or.inr ⟨i, rfl, by rw [h1]; exact HLZ.out, by rw [h1]; exact HBZ.out.symm⟩)
        go_wp2_with fail
        go_ret
        exact ⟨⟨_, rfl, HE.out⟩, rfl⟩
      | false =>
        have HN9 : Hid (∀ (j : Nat) (z : Int), j < i + 1 → l[j]? = some z → pb z = false) := Lib.hid (fun j y hj hy => by
          by_cases hji : j = i
          · subst hji
            rw [HLZ.out] at hy
            cases hy
            exact HBZ.out.symm
          · exact hno.out j y (by omega) hy)
        go_wp2_with fail
        go_roundw
        case rel => exact ⟨i + 1, by omega, by go_num, by first | rfl | trivial, HN9⟩
        case measure => simp [intOf]; omega
    · have t0 : decide ((i : Int) < (m : Int)) = false := by simp; omega
      have HE : Hid (FirstI l pb (-1)) := Lib.hid (by
        have h1 : ∀ x ∈ l, pb x = false := fun x hx => by
          obtain ⟨j, hj⟩ := List.getElem?_of_mem hx
          exact hno.out j x (by have := (List.getElem?_eq_some_iff.1 hj).1; have := HM.out; omega) hj
        exact Or.inl ⟨rfl, first_no h1, h1⟩)
      go_wp2_with fail
      go_ret
      exact ⟨⟨_, rfl, HE.out⟩, rfl⟩

set_option maxRecDepth 8000 in
set_option maxHeartbeats 2000000 in
theorem idx_pointed {w : World} {a : Option Addr} {m c : Nat} {l : List Int} {pb : Int → Bool} {p : Nat} (h : IntsF w a l) (hm : m = l.length) (hm9 : m ≤ 1000) (hF : ∀ (z : Int), z ∈ l → Calls Try.prog 68 (#[.int .i64 z] ++ #[.pointer (some ⟨p, 0, none⟩)]) w fun e w'' => e = .returned (.bool (pb z)) ∧ w = w'') :
    Calls Try.prog 62 #[.slice a m c, .func (.func 68) #[] #[.pointer (some ⟨p, 0, none⟩)]] w fun e w' => (∃ z, e = .returned (.int .i64 z) ∧ FirstI l pb z) ∧ w = w' := by
  have HI := Lib.hid h
  have HM := Lib.hid hm
  have KF := Lib.hid hF
  clear h hm hF
  go_enter Try.func62, Try.ntmps62
  go_wp2_with fail
  go_loopw [8] (fun iv wr => ∃ i : Nat, i ≤ m ∧ iv = .int .i64 i ∧ wr = w ∧ Hid (∀ (j : Nat) (z : Int), j < i → l[j]? = some z → pb z = false)) (fun iv _ => m - (intOf iv).toNat)
  case atStart => exact ⟨0, Nat.zero_le _, rfl, rfl, Lib.hid (fun j z hj => absurd hj (Nat.not_lt_zero _))⟩
  case round =>
    obtain ⟨i, hi, rfl, rfl, hno⟩ := hrel
    by_cases hin : i < m
    · have t0 : decide ((i : Int) < (m : Int)) = true := by simp; omega
      obtain ⟨z, B, off, hz, ha, hzb, hc⟩ := HI.out.at (i := i) (by have := HM.out; omega)
      subst ha
      have e1 := hc _ (Below.refl _ _)
      have HLZ := Lib.hid hz
      clear hc hz
      obtain ⟨bz, hbz⟩ : ∃ b, b = pb z := ⟨_, rfl⟩
      have HBZ := Lib.hid hbz
      go_wp2_with fail
      refine (KF.out z (List.mem_of_getElem? HLZ.out)).mono ?_
      rintro en2 w2 ⟨rfl, rfl⟩
      rw [← hbz]
      clear hbz
      cases bz with
      | true =>
        have HE : Hid (FirstI l pb (i : Int)) := Lib.hid (by
          have h1 := first_at HLZ.out HBZ.out.symm hno.out
          exact Or.inr ⟨i, rfl, by rw [h1]; exact HLZ.out, by rw [h1]; exact HBZ.out.symm⟩)
        go_wp2_with fail
        go_ret
        exact ⟨⟨_, rfl, HE.out⟩, rfl⟩
      | false =>
        have HN9 : Hid (∀ (j : Nat) (z : Int), j < i + 1 → l[j]? = some z → pb z = false) := Lib.hid (fun j y hj hy => by
          by_cases hji : j = i
          · subst hji
            rw [HLZ.out] at hy
            cases hy
            exact HBZ.out.symm
          · exact hno.out j y (by omega) hy)
        go_wp2_with fail
        go_roundw
        case rel => exact ⟨i + 1, by omega, by go_num, by first | rfl | trivial, HN9⟩
        case measure => simp [intOf]; omega
    · have t0 : decide ((i : Int) < (m : Int)) = false := by simp; omega
      have HE : Hid (FirstI l pb (-1)) := Lib.hid (by
        have h1 : ∀ x ∈ l, pb x = false := fun x hx => by
          obtain ⟨j, hj⟩ := List.getElem?_of_mem hx
          exact hno.out j x (by have := (List.getElem?_eq_some_iff.1 hj).1; have := HM.out; omega) hj
        exact Or.inl ⟨rfl, first_no h1, h1⟩)
      go_wp2_with fail
      go_ret
      exact ⟨⟨_, rfl, HE.out⟩, rfl⟩

/-- What each takes, one behind the other. -/
def serL (W : List (List Int)) (order got : List Int) : List Int := order.foldl (fun got a => got.set a.toNat (firstQ (atL W a) (fun x => !got.contains x))) got
theorem serL_succ {W : List (List Int)} {order got : List Int} {i : Nat} {a : Int} (h : order[i]? = some a) : serL W (order.take (i + 1)) got = (serL W (order.take i) got).set a.toNat (firstQ (atL W a) (fun x => !(serL W (order.take i) got).contains x)) := by
  unfold serL
  rw [take_has h, List.foldl_append]
  rfl
theorem serL_len {W : List (List Int)} {order got : List Int} : (serL W order got).length = got.length := by
  unfold serL
  induction order generalizing got with
  | nil => rfl
  | cons a l ih => rw [List.foldl_cons, ih, List.length_set]
theorem serL_range {W : List (List Int)} {n : Nat} (hW : okLists n false W = true) {order got : List Int} (hg : ∀ z ∈ got, z = -1 ∨ (0 ≤ z ∧ z < n)) : ∀ z ∈ serL W order got, z = -1 ∨ (0 ≤ z ∧ z < n) := by
  unfold serL
  induction order generalizing got with
  | nil => exact hg
  | cons a l ih =>
    rw [List.foldl_cons]
    refine ih (fun z hz => ?_)
    rcases List.mem_or_eq_of_mem_set hz with h | h
    · exact hg z h
    · rcases first_mem (l := atL W a) (pb := fun x => !got.contains x) with e | ⟨e, _⟩
      · left; rw [h, e]
      · right
        rw [← h] at e
        unfold atL at e
        by_cases ha : a.toNat < W.length
        · have h9 := okLists_nth hW ha
          rw [okL_false] at h9
          exact (listed_iff.1 h9).2 z e
        · unfold nthL at e
          rw [List.getElem?_eq_none (by omega)] at e
          simp at e
theorem serL_other {W : List (List Int)} {order got : List Int} {j : Nat} (h : ∀ a ∈ order, a.toNat ≠ j) : (serL W order got)[j]? = got[j]? := by
  unfold serL
  induction order generalizing got with
  | nil => rfl
  | cons a l ih =>
    rw [List.foldl_cons, ih (fun x hx => h x (List.mem_cons_of_mem _ hx)), List.getElem?_set_ne (h a (List.mem_cons_self ..))]
theorem set_same {l : List Int} {j : Nat} {z : Int} (h : l[j]? = some z) : l.set j z = l := by
  apply List.ext_getElem?
  intro i
  by_cases hi : i = j
  · subst hi
    rw [List.getElem?_set_self (List.getElem?_eq_some_iff.1 h).1, h]
  · rw [List.getElem?_set_ne (fun e => hi e.symm)]
/-- Who has not chosen yet has nothing. -/
theorem serL_fresh {W : List (List Int)} {order : List Int} {n i : Nat} {a : Int} (hn : order.Nodup) (hr : ∀ x ∈ order, 0 ≤ x ∧ x < (n : Int)) (h : order[i]? = some a) : (serL W (order.take i) (List.replicate n (-1)))[a.toNat]? = some (-1) := by
  have ha := hr a (List.mem_of_getElem? h)
  rw [serL_other (fun x hx e => ?_), List.getElem?_replicate, if_pos (by omega)]
  obtain ⟨j, hj⟩ := List.getElem?_of_mem hx
  rw [List.getElem?_take] at hj
  split at hj
  · rename_i hlt
    have hx0 := hr x (List.mem_of_getElem? hj)
    have hxa : x = a := by omega
    subst hxa
    unfold List.Nodup at hn
    rw [List.pairwise_iff_getElem] at hn
    obtain ⟨h1, h2⟩ := List.getElem?_eq_some_iff.1 hj
    obtain ⟨h3, h4⟩ := List.getElem?_eq_some_iff.1 h
    exact hn j i h1 h3 hlt (h2.trans h4.symm)
  · cases hj
theorem rep_range {n k : Nat} : ∀ z ∈ List.replicate n (-1 : Int), z = -1 ∨ (0 ≤ z ∧ z < (k : Int)) := fun _ hz => Or.inl (List.eq_of_mem_replicate hz)
theorem range_wide {n : Nat} (hn : n ≤ 100) {l : List Int} (h : ∀ z ∈ l, z = -1 ∨ (0 ≤ z ∧ z < (n : Int))) : ∀ z ∈ l, -9223372036854775808 ≤ z ∧ z ≤ 9223372036854775807 := fun z hz => by
  rcases h z hz with e | e <;> omega

set_option maxRecDepth 8000 in
theorem chosen1_w {w : World} {p G n : Nat} {got : List Int} {z : Int} (hp : w.cell? ⟨p, 0, none⟩ = some (.slice (some ⟨G, 0, none⟩) n n)) (hG : BlkI w G got) (hn : n = got.length) (hn9 : n ≤ 100) (hr : ∀ x ∈ got, -9223372036854775808 ≤ x ∧ x ≤ 9223372036854775807) :
    Calls Try.prog 61 #[.int .i64 z, .pointer (some ⟨p, 0, none⟩)] w fun e w' => e = .returned (.bool (!got.contains z)) ∧ w = w' := by
  have KC := Lib.hid (contains_w (c := n) (v := z) (hG.ints hr) hn (by omega))
  obtain ⟨cb, hcb⟩ : ∃ x, x = got.contains z := ⟨_, rfl⟩
  rw [← hcb] at KC ⊢
  clear hG hn hr hcb
  go_enter Try.func61, Try.ntmps61
  go_wp2_with fail
  refine KC.out.mono ?_
  rintro en2 w2 ⟨rfl, rfl⟩
  go_wp2_with fail
  go_ret
  exact ⟨rfl, rfl⟩
set_option maxRecDepth 8000 in
set_option maxHeartbeats 8000000 in
theorem chosen_w {w : World} {m c n ca k : Nat} {a b : Option Addr} {order : List Int} {W : List (List Int)} (h : IntsF w a order) (hm : m = order.length) (hm8 : m ≤ 8) (hW : RowsF w b W) (hs : SmallL W) (hn : n = W.length) (hn8 : n ≤ 8) (hk : k ≤ 8) (hok : okLists k false W = true) (ho : listedQ n order = true) :
    Calls Try.prog 49 #[.slice a m c, .slice b n ca] w fun e w' => (∃ B, e = .returned (.slice (some ⟨B, 0, none⟩) n n) ∧ w.heap.size ≤ B ∧ BlkI w' B (serL W order (List.replicate n (-1)))) ∧ Below w.heap.size w w' := by
  have HO := Lib.hid h
  have HM := Lib.hid hm
  have HW := Lib.hid hW
  have HS := Lib.hid hs
  have HN := Lib.hid hn
  have HOK := Lib.hid hok
  have HLO := Lib.hid (listed_iff.1 ho)
  have KN := Lib.hid (nothing_w (w := w) (n := n) hn8)
  clear h hm hW hs hn hok ho
  go_enter Try.func49, Try.ntmps49
  go_wp2_with fail
  refine KN.out.mono ?_
  rintro en1 w1 ⟨G, rfl, hG, hT1, hb1⟩
  obtain ⟨w2, hw2⟩ : ∃ w2, w2 = w1.alloc (Obj.cells #[Value.slice (some ⟨G, 0, none⟩) n n] 23) := ⟨_, rfl⟩
  have HGL := Lib.hid hG
  have hb2 : Below w1.heap.size w1 w2 := by rw [hw2]; exact (Below.refl _ _).alloc (Nat.le_refl _) _
  have HX : Hid (w2.heap[w1.heap.size]? = some (.cells #[Value.slice (some ⟨G, 0, none⟩) n n] 23 (0, 0))) := Lib.hid (by rw [hw2]; exact heap_alloc_new w1 _)
  have HT2 : Hid (BlkI w2 G (serL W (order.take 0) (List.replicate n (-1)))) := Lib.hid (by rw [List.take_zero]; exact hT1.below hb2)
  have HZ2 : Hid (Below w.heap.size w w2) := Lib.hid (below_trans hb1 hb2)
  obtain ⟨p, hp⟩ : ∃ p, p = w1.heap.size := ⟨_, rfl⟩
  have HPG : Hid (G < p) := Lib.hid (by rw [hp]; exact hT1.lt)
  rw [← hp] at HX
  have HPP : Hid (p = w1.heap.size) := Lib.hid hp
  have HW2 := Lib.hid hw2.symm
  clear hG hT1 hb1 hb2 hw2 KN hp
  go_wp2_with fail
  rw [HW2.out, ← HPP.out]
  clear HW2 HPP
  go_loopw [16] (fun iv wr => ∃ i : Nat, i ≤ m ∧ iv = .int .i64 i ∧ Hid (wr.heap[p]? = some (.cells #[Value.slice (some ⟨G, 0, none⟩) n n] 23 (0, 0))) ∧ Hid (BlkI wr G (serL W (order.take i) (List.replicate n (-1)))) ∧ Hid (Below w.heap.size w wr)) (fun iv _ => m - (intOf iv).toNat)
  case atStart => exact ⟨0, Nat.zero_le _, rfl, HX, HT2, HZ2⟩
  case round =>
    obtain ⟨i, hi, rfl, hX, hT, hZ⟩ := hrel
    obtain ⟨wo, rfl⟩ : ∃ wo : World, wo = wr := ⟨_, rfl⟩
    clear HX HT2 HZ2
    have x0 : wo.cell? ⟨p, 0, none⟩ = some (.slice (some ⟨G, 0, none⟩) n n) := by rw [cell_of_row _ _ _ _ _ _ hX.out]; rfl
    by_cases hin : i < m
    · have t0 : decide ((i : Int) < (m : Int)) = true := by simp; omega
      obtain ⟨z, B, off, hz, ha, hzb, hc⟩ := HO.out.at (i := i) (by have := HM.out; omega)
      subst ha
      have e1 := hc wo hZ.out
      have HLZ := Lib.hid hz
      have hzr := HLO.out.2 z (List.mem_of_getElem? hz)
      obtain ⟨ag, rfl⟩ : ∃ ag : Nat, z = (ag : Int) := ⟨z.toNat, by omega⟩
      have hag : ag < n := by omega
      clear hc hz hzb hzr
      obtain ⟨B2, off2, a2, c2, hb, hI2, -, -, hc2⟩ := HW.out.at (i := ag) (by have := HN.out; omega)
      subst hb
      have e2 := hc2 wo hZ.out
      have HI2 := Lib.hid hI2
      have hl2 := HS.out.nth ag
      obtain ⟨got, hgot⟩ : ∃ x, x = serL W (order.take i) (List.replicate n (-1)) := ⟨_, rfl⟩
      have HGT := Lib.hid hgot
      have HGL2 : Hid (n = got.length) := Lib.hid (by rw [hgot, serL_len]; simp)
      have HGR : Hid (∀ z ∈ got, z = -1 ∨ (0 ≤ z ∧ z < (k : Int))) := Lib.hid (by rw [hgot]; exact serL_range HOK.out rep_range)
      have hT' : Hid (BlkI wo G got) := Lib.hid (by rw [hgot]; exact hT.out)
      have KX := Lib.hid (idx_chosen (c := c2) (pb := fun x => !got.contains x) (hI2.below hZ.out) rfl (by omega) (fun _ _ => chosen1_w x0 hT'.out HGL2.out (by omega) (range_wide (by omega) HGR.out)))
      obtain ⟨l2, hl2'⟩ : ∃ x, x = (nthL W ag).length := ⟨_, rfl⟩
      have HL2 := Lib.hid hl2'
      rw [← hl2'] at KX e2 hl2
      have HSU : Hid (serL W (order.take (i + 1)) (List.replicate n (-1)) = got.set ag (firstQ (nthL W ag) (fun x => !got.contains x))) := Lib.hid (by rw [serL_succ HLZ.out, ← hgot]; rfl)
      have HFR : Hid (got[ag]? = some (-1)) := Lib.hid (by rw [hgot]; exact serL_fresh HLO.out.1 HLO.out.2 HLZ.out)
      clear hI2 hc2 hl2' hgot hT
      have hmf : ∀ (fn : Fn) (first cap : Array Value) (w : World), (Instr.makeFunc fn first cap).run Try.prog w = .ok (.func fn first cap) w := fun _ _ _ _ => rfl
      go_wp2_with fail
      refine KX.out.mono ?_
      rintro en3 w3 ⟨⟨z, rfl, hFI⟩, rfl⟩
      have HFI := Lib.hid hFI
      clear hFI KX
      by_cases hz0 : z = -1
      · subst hz0
        have t2 : decide ((-1 : Int) ≥ 0) = false := by rfl
        have HT9 : Hid (BlkI wo G (serL W (order.take (i + 1)) (List.replicate n (-1)))) := Lib.hid (by
          rw [HSU.out]
          rcases HFI.out with ⟨_, e, _⟩ | ⟨k, e, _⟩
          · rw [e, set_same HFR.out]; exact hT'.out
          · omega)
        clear x0 e1 e2
        go_wp2_with fail
        go_roundw
        case rel => exact ⟨i + 1, by omega, by go_num, hX, HT9, hZ⟩
        case measure => simp [intOf]; omega
      · obtain ⟨j, rfl, HJ⟩ : ∃ j : Nat, z = (j : Int) ∧ Hid ((nthL W ag)[j]? = some (firstQ (nthL W ag) (fun x => !got.contains x))) := by
          rcases HFI.out with ⟨e, _⟩ | ⟨k, e, e2, _⟩
          · exact absurd e hz0
          · exact ⟨k, e, Lib.hid e2⟩
        have t2 : decide ((j : Int) ≥ 0) = true := by simp
        have hjl : j < l2 := by rw [HL2.out]; exact (List.getElem?_eq_some_iff.1 HJ.out).1
        obtain ⟨fq, hfq⟩ : ∃ x, x = firstQ (nthL W ag) (fun x => !got.contains x) := ⟨_, rfl⟩
        rw [← hfq] at HJ HSU
        obtain ⟨B4, off4, ha4, hc4, -⟩ := HI2.out j fq HJ.out
        subst ha4
        have e4 : wo.cell? ⟨B4, off4 + j, none⟩ = some (.int .i64 fq) := cell_below hZ.out hc4
        have e5 : wo.cell? ⟨G, ag, none⟩ = some (.int .i64 (-1)) := hT'.out.cell HFR.out
        have z5 := hT'.out.frozen ag
        clear hc4 hfq HFI hz0
        go_wp2_with fail
        go_still_tail 10, (by kernel_rfl)
        change wpList _ _ _ _ _ wo.drew
        obtain ⟨w4, hw4⟩ : ∃ w4, w4 = wo.drew := ⟨_, rfl⟩
        rw [← hw4]
        have hT4 : Hid (BlkI w4 G got) := Lib.hid (by rw [hw4]; exact hT'.out)
        have hX4 : Hid (w4.heap[p]? = some (.cells #[Value.slice (some ⟨G, 0, none⟩) n n] 23 (0, 0))) := Lib.hid (by rw [hw4]; exact hX.out)
        have hZ4 : Hid (Below w.heap.size w w4) := Lib.hid (by rw [hw4]; exact below_drewN hZ.out 1)
        clear hw4 x0 e1 e2 e4 e5 z5 hT' hX hZ
        go_wp2_with ((with_reducible refine at_store ?_); refine wpList_store_int rfl (.tmp 37) (.tmp 36) rfl G ag rfl fq rfl got hT4.out (by have := HGL2.out; omega) ?_; intro w5 h5 on5; refine halt ?_)
        refine go_on ?_
        have hT5 : Hid (BlkI w5 G (serL W (order.take (i + 1)) (List.replicate n (-1)))) := Lib.hid (by rw [HSU.out]; exact h5)
        have hX5 : Hid (w5.heap[p]? = some (.cells #[Value.slice (some ⟨G, 0, none⟩) n n] 23 (0, 0))) := Lib.hid ((on5.block p (by have := HPG.out; omega)).trans hX4.out)
        have hZ5 : Hid (Below w.heap.size w w5) := Lib.hid (below_only hZ4.out on5 HGL.out)
        clear h5 on5 hT4 hX4 hZ4
        go_wp2_with fail
        go_roundw
        case rel => exact ⟨i + 1, by omega, by go_num, hX5, hT5, hZ5⟩
        case measure => simp [intOf]; omega
    · have t0 : decide ((i : Int) < (m : Int)) = false := by simp; omega
      have HT9 : Hid (BlkI wo G (serL W order (List.replicate n (-1)))) := Lib.hid (by
        have := hT.out
        rwa [List.take_of_length_le (by have := HM.out; omega)] at this)
      clear hT
      go_wp2_with fail
      go_ret
      exact ⟨⟨G, rfl, HGL.out, HT9.out⟩, hZ.out⟩
end Go.Proofs.Ytomnnickiljkgaa
