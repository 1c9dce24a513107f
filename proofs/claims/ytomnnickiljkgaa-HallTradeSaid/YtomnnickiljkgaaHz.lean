/- The calls whose answers the document fixes. -/
import Derived.Test.YtomnnickiljkgaaHy
namespace Go.Proofs.Ytomnnickiljkgaa
open Go.RowKit
attribute [local go_sem ↓] Go.wp_at_zero Go.wp_at_succ

def fxP : List (List Int) := [[0, 1], [0, 1]]
def fxR : List (List Int) := [[1, 0], [1, 0]]
def fxT : List (List Int) := [[1, 0, 2], [0, 1, 2], [0, 1, 2]]
def fxW : List (List Int) := [[0], [0, 1]]
theorem fx_errS : errS fxP fxR = 0 := by decide
theorem fx_acc {l : List Int} (h : AccQ fxP fxR l) : l = [1, 0] := by
  obtain ⟨m, rfl, hm⟩ := h.1 fx_errS
  have h1 : m 1 = 0 := by
    apply Classical.byContradiction
    intro hne
    have hs : scoreQ (nthL fxP 1) 0 = 0 := by decide
    have hpos : scoreQ (nthL fxP 1) 0 < scoreQ (nthL fxP 1) (m 1) := by
      rw [hs]
      rcases Nat.eq_zero_or_pos (scoreQ (nthL fxP 1) (m 1)) with e | e
      · exact absurd (score_inj (l := nthL fxP 1) (x := 0) (by decide) (by rw [e, hs])) hne
      · exact e
    obtain ⟨q, hq, _, hlt⟩ := hm.stable.pair 1 (by decide) 0 hpos (by decide)
    have : scoreQ (atL fxR 0) ((1 : Nat) : Int) = 0 := by decide
    omega
  have h0 : m 0 = 1 := by
    apply Classical.byContradiction
    intro hne
    have hs : scoreQ (nthL fxP 0) 1 = 1 := by decide
    have hs0 : scoreQ (nthL fxP 0) 0 = 0 := by decide
    have hm0 : m 0 ≠ 0 := fun e => by
      have := hm.stable.inj 0 1 (by decide) (by decide) (by rw [e, h1]) (by rw [e]; decide)
      omega
    have hpos : scoreQ (nthL fxP 0) 1 < scoreQ (nthL fxP 0) (m 0) := by
      rw [hs]
      have e0 : scoreQ (nthL fxP 0) (m 0) ≠ 0 := fun e => hm0 (score_inj (l := nthL fxP 0) (x := 0) (by decide) (by rw [e, hs0]))
      have e1 : scoreQ (nthL fxP 0) (m 0) ≠ 1 := fun e => hne (score_inj (l := nthL fxP 0) (x := 1) (by decide) (by rw [e, hs]))
      omega
    obtain ⟨q, hq, hqm, _⟩ := hm.stable.pair 0 (by decide) 1 hpos (by decide)
    have hq2 : q < 2 := hq
    rcases (by omega : q = 0 ∨ q = 1) with rfl | rfl
    · exact hne hqm
    · rw [h1] at hqm; cases hqm
  show [m 0, m 1] = [1, 0]
  rw [h0, h1]
theorem fx_errT : errT fxT = 0 := by decide
def fxG (i : Nat) : Nat := if i = 0 then 1 else if i = 1 then 0 else i
def fxO (i : Nat) : Nat := if i = 2 then 1 else 0
theorem fx_cert : CertT fxT fxG fxO := by
  refine ⟨⟨?_, ?_⟩, ?_, ?_⟩
  · show ∀ i, i < 3 → fxG i < 3
    decide
  · show ∀ i j, i < 3 → j < 3 → fxG i = fxG j → i = j
    intro i j hi hj
    rcases (by omega : i = 0 ∨ i = 1 ∨ i = 2) with rfl | rfl | rfl <;> rcases (by omega : j = 0 ∨ j = 1 ∨ j = 2) with rfl | rfl | rfl <;> decide
  · show ∀ i, i < 3 → fxO (fxG i) = fxO i
    decide
  · show ∀ i : Nat, i < 3 → ∀ x : Nat, x < 3 → scoreQ (nthL fxT i) (x : Int) < scoreQ (nthL fxT i) (fxG i : Int) → fxO x < fxO i
    decide
theorem fx_trd {l : List Int} (h : TrdA fxT l) : l = [1, 0, 2] :=
  h.one ⟨fun _ => ⟨fxG, fxO, fx_cert, rfl⟩, fun e => absurd fx_errT e⟩
theorem fx_errZ : errZ [1, 0] fxW 2 = 0 := by decide
theorem fx_ser {l : List Int} (h : SerA [1, 0] fxW 2 l) : l = [-1, 0] := by
  rw [h.1 fx_errZ]
  decide
theorem fx_errM : errM [1, 9, 4] [0, 10] = 0 := by decide
theorem fx_med : medQ [1, 9, 4] [0, 10] = 4 := by
  unfold medQ
  rw [if_pos fx_errM]
  have : sortQ ([1, 9, 4] ++ [0, 10]) = [0, 1, 4, 9, 10] := by
    unfold sortQ
    simp [List.mergeSort, List.MergeSort.Internal.splitInTwo]
  rw [this]
  rfl
theorem fx_errB : errB fxP fxR [0, 1] = 0 := by decide
theorem fx_blk {x y : Int} (h : BlkA fxP fxR [0, 1] x y) : x = 1 ∧ y = 0 := by
  have h1 := h.1 fx_errB
  refine h1.one (Or.inr ⟨1, by decide, ?_, rfl, Or.inr ⟨by decide, 0, by decide, ?_, by decide, rfl⟩⟩)
  · intro q hq
    have : q = 0 := by omega
    subst this
    refine ⟨by decide, ?_⟩
    show ∀ r, r < 2 → blocksB fxP fxR [0, 1] 0 r = false
    decide
  · intro s hs; omega

theorem rows2 {w : World} {X B0 B1 : Nat} {l0 l1 : List Int} {n0 n1 : Nat} (h : w.heap[X]? = some (.cells #[Value.slice (some ⟨B0, 0, none⟩) n0 n0, Value.slice (some ⟨B1, 0, none⟩) n1 n1] 23 (0, 0))) (h0 : IntsF w (some ⟨B0, 0, none⟩) l0) (h1 : IntsF w (some ⟨B1, 0, none⟩) l1) (e0 : n0 = l0.length) (e1 : n1 = l1.length) (b0 : n0 ≤ 100) (b1 : n1 ≤ 100) :
    RowsF w (some ⟨X, 0, none⟩) [l0, l1] := fun i l hl => by
  subst e0 e1
  match i, hl with
  | 0, hl => cases hl; exact ⟨X, 0, _, _, rfl, by rw [cell_of_row _ _ _ _ _ _ h]; rfl, h0, Nat.le_refl _, by omega⟩
  | 1, hl => cases hl; exact ⟨X, 0, _, _, rfl, by rw [cell_of_row _ _ _ _ _ _ h]; rfl, h1, Nat.le_refl _, by omega⟩
theorem rows3 {w : World} {X B0 B1 B2 : Nat} {l0 l1 l2 : List Int} {n0 n1 n2 : Nat} (h : w.heap[X]? = some (.cells #[Value.slice (some ⟨B0, 0, none⟩) n0 n0, Value.slice (some ⟨B1, 0, none⟩) n1 n1, Value.slice (some ⟨B2, 0, none⟩) n2 n2] 23 (0, 0))) (h0 : IntsF w (some ⟨B0, 0, none⟩) l0) (h1 : IntsF w (some ⟨B1, 0, none⟩) l1) (h2 : IntsF w (some ⟨B2, 0, none⟩) l2) (e0 : n0 = l0.length) (e1 : n1 = l1.length) (e2 : n2 = l2.length) (b0 : n0 ≤ 100) (b1 : n1 ≤ 100) (b2 : n2 ≤ 100) :
    RowsF w (some ⟨X, 0, none⟩) [l0, l1, l2] := fun i l hl => by
  subst e0 e1 e2
  match i, hl with
  | 0, hl => cases hl; exact ⟨X, 0, _, _, rfl, by rw [cell_of_row _ _ _ _ _ _ h]; rfl, h0, Nat.le_refl _, by omega⟩
  | 1, hl => cases hl; exact ⟨X, 0, _, _, rfl, by rw [cell_of_row _ _ _ _ _ _ h]; rfl, h1, Nat.le_refl _, by omega⟩
  | 2, hl => cases hl; exact ⟨X, 0, _, _, rfl, by rw [cell_of_row _ _ _ _ _ _ h]; rfl, h2, Nat.le_refl _, by omega⟩
theorem below_alloc (w : World) (o : Obj) : Below w.heap.size w (w.alloc o) := (Below.refl _ _).alloc (Nat.le_refl _) _
/-- Small numbers. -/
def tiny (l : List Int) : Bool := l.all (fun z => decide (-100 ≤ z ∧ z ≤ 100))
theorem blk_ints {w : World} {B : Nat} {l : List Int} (h : BlkI w B l) (ht : tiny l = true) : IntsF w (some ⟨B, 0, none⟩) l := h.ints (fun z hz => by
  have := List.all_eq_true.1 ht z hz
  simp only [decide_eq_true_eq] at this
  omega)
theorem fx_small {L : List (List Int)} (h : decide (L.length ≤ 12) && L.all (fun l => decide (l.length ≤ 12)) = true) : SmallL L := by
  simp only [Bool.and_eq_true, decide_eq_true_eq, List.all_eq_true] at h
  exact h
theorem fxa_w {w : World} {a b : Option Addr} {ca cb : Nat} (h : RowsF w a fxP) (h2 : RowsF w b fxR) :
    Calls Try.prog 12 #[.slice a 2 ca, .slice b 2 cb] w fun e w' => (∃ va vc, e = .returned (.tuple #[.slice va 2 vc, .int .i64 0]) ∧ IntsF w' va [1, 0]) ∧ Below w.heap.size w w' := by
  refine (accept_w (ca := ca) (cb := cb) h (fx_small (by decide)) rfl h2 (fx_small (by decide)) rfl).mono ?_
  rintro e w' ⟨⟨va, vc, l, rfl, hI, hA⟩, hb⟩
  obtain rfl := fx_acc hA
  exact ⟨⟨va, vc, by rw [fx_errS]; rfl, hI⟩, hb⟩
theorem fxt_w {w : World} {a : Option Addr} {ca : Nat} (h : RowsF w a fxT) :
    Calls Try.prog 21 #[.slice a 3 ca] w fun e w' => (∃ va vc, e = .returned (.tuple #[.slice va 3 vc, .int .i64 0]) ∧ IntsF w' va [1, 0, 2]) ∧ Below w.heap.size w w' := by
  refine (trade_w (ca := ca) h (fx_small (by decide)) rfl).mono ?_
  rintro e w' ⟨⟨va, vc, l, rfl, hI, hA⟩, hb⟩
  obtain rfl := fx_trd hA
  exact ⟨⟨va, vc, by rw [fx_errT]; rfl, hI⟩, hb⟩
theorem fxs_w {w : World} {a b : Option Addr} {c ca : Nat} (h : IntsF w a [1, 0]) (h2 : RowsF w b fxW) :
    Calls Try.prog 24 #[.slice a 2 c, .slice b 2 ca, .int .i64 2] w fun e w' => (∃ va vc, e = .returned (.tuple #[.slice va 2 vc, .int .i64 0]) ∧ IntsF w' va [-1, 0]) ∧ Below w.heap.size w w' := by
  refine (serial_w (c := c) (ca := ca) (z := 2) h rfl (by decide) h2 (fx_small (by decide)) rfl).mono ?_
  rintro e w' ⟨⟨va, vc, l, rfl, hI, hA⟩, hb⟩
  obtain rfl := fx_ser hA
  exact ⟨⟨va, vc, by rw [fx_errZ]; rfl, hI⟩, hb⟩
theorem fxm_w {w : World} {B B2 : Nat} (h : IntsF w (some ⟨B, 0, none⟩) [1, 9, 4]) (h2 : IntsF w (some ⟨B2, 0, none⟩) [0, 10]) :
    Calls Try.prog 36 #[.slice (some ⟨B, 0, none⟩) 3 3, .slice (some ⟨B2, 0, none⟩) 2 2] w fun e w' => e = .returned (.tuple #[.int .i64 4, .int .i64 0]) ∧ Below w.heap.size w w' := by
  refine (median_w (c := 3) (d := 2) h rfl (fun e => by cases e) h2 rfl (fun e => by cases e) (by decide) (by decide)).mono ?_
  rintro e w' ⟨rfl, hb⟩
  exact ⟨by rw [fx_med, fx_errM], hb⟩
theorem fxb_w {w : World} {a b d : Option Addr} {ca cb c : Nat} (h : RowsF w a fxP) (h2 : RowsF w b fxR) (h3 : IntsF w d [0, 1]) :
    Calls Try.prog 13 #[.slice a 2 ca, .slice b 2 cb, .slice d 2 c] w fun e w' => e = .returned (.tuple #[.int .i64 1, .int .i64 0, .int .i64 0]) ∧ Below w.heap.size w w' := by
  refine (block_w (ca := ca) (cb := cb) (c := c) h (fx_small (by decide)) rfl h2 (fx_small (by decide)) rfl h3 rfl (by decide)).mono ?_
  rintro e w' ⟨⟨x, y, rfl, hA⟩, hb⟩
  obtain ⟨rfl, rfl⟩ := fx_blk hA
  exact ⟨by rw [fx_errB], hb⟩
theorem fxi_w {w : World} {a b : Option Addr} {c d n : Nat} {l : List Int} (h : IntsF w a l) (h2 : IntsF w b l) (hn : n = l.length) (h9 : n ≤ 100) :
    Calls Try.prog 14 #[.slice a n c, .slice b n d] w fun e w' => e = .returned (.bool true) ∧ Below w.heap.size w w' := by
  refine (sameInts_w (c := c) (d := d) h hn (by omega) h2 hn).mono ?_
  rintro e w' ⟨rfl, hb⟩
  exact ⟨by simp, hb⟩
theorem alloc_at {w : World} {o : Obj} {n : Nat} (hn : w.heap.size = n) : (w.alloc o).heap[n]? = some o ∧ (w.alloc o).heap.size = n + 1 := by
  subst hn
  exact ⟨heap_alloc_new w o, by simp⟩
set_option maxRecDepth 20000 in
set_option maxHeartbeats 8000000 in
theorem fixed_w {w : World} : Calls Try.prog 15 #[] w fun e w' => e = .returned (.bool true) ∧ Below w.heap.size w w' := by
  obtain ⟨v1, ev1⟩ : ∃ x, x = w.alloc (Obj.cells #[Value.int .i64 0, Value.int .i64 1] 3) := ⟨_, rfl⟩
  have zv1 : v1.heap[w.heap.size]? = some (Obj.cells #[Value.int .i64 0, Value.int .i64 1] 3 (0, 0)) ∧ v1.heap.size = w.heap.size + 1 := by rw [ev1]; exact alloc_at rfl
  have bv1 : Below w.heap.size w v1 := by rw [ev1]; exact below_alloc _ _
  obtain ⟨v2, ev2⟩ : ∃ x, x = v1.alloc (Obj.cells #[Value.int .i64 0, Value.int .i64 1] 3) := ⟨_, rfl⟩
  have zv2 : v2.heap[w.heap.size + 1]? = some (Obj.cells #[Value.int .i64 0, Value.int .i64 1] 3 (0, 0)) ∧ v2.heap.size = w.heap.size + 1 + 1 := by rw [ev2]; exact alloc_at zv1.2
  have bv2 : Below v1.heap.size v1 v2 := by rw [ev2]; exact below_alloc _ _
  obtain ⟨v3, ev3⟩ : ∃ x, x = v2.alloc (Obj.cells #[Value.slice (some ⟨w.heap.size, 0, none⟩) 2 2, Value.slice (some ⟨w.heap.size + 1, 0, none⟩) 2 2] 23) := ⟨_, rfl⟩
  have zv3 : v3.heap[w.heap.size + 1 + 1]? = some (Obj.cells #[Value.slice (some ⟨w.heap.size, 0, none⟩) 2 2, Value.slice (some ⟨w.heap.size + 1, 0, none⟩) 2 2] 23 (0, 0)) ∧ v3.heap.size = w.heap.size + 1 + 1 + 1 := by rw [ev3]; exact alloc_at zv2.2
  have bv3 : Below v2.heap.size v2 v3 := by rw [ev3]; exact below_alloc _ _
  obtain ⟨v4, ev4⟩ : ∃ x, x = v3.alloc (Obj.cells #[Value.int .i64 1, Value.int .i64 0] 3) := ⟨_, rfl⟩
  have zv4 : v4.heap[w.heap.size + 1 + 1 + 1]? = some (Obj.cells #[Value.int .i64 1, Value.int .i64 0] 3 (0, 0)) ∧ v4.heap.size = w.heap.size + 1 + 1 + 1 + 1 := by rw [ev4]; exact alloc_at zv3.2
  have bv4 : Below v3.heap.size v3 v4 := by rw [ev4]; exact below_alloc _ _
  obtain ⟨v5, ev5⟩ : ∃ x, x = v4.alloc (Obj.cells #[Value.int .i64 1, Value.int .i64 0] 3) := ⟨_, rfl⟩
  have zv5 : v5.heap[w.heap.size + 1 + 1 + 1 + 1]? = some (Obj.cells #[Value.int .i64 1, Value.int .i64 0] 3 (0, 0)) ∧ v5.heap.size = w.heap.size + 1 + 1 + 1 + 1 + 1 := by rw [ev5]; exact alloc_at zv4.2
  have bv5 : Below v4.heap.size v4 v5 := by rw [ev5]; exact below_alloc _ _
  obtain ⟨v6, ev6⟩ : ∃ x, x = v5.alloc (Obj.cells #[Value.slice (some ⟨w.heap.size + 1 + 1 + 1, 0, none⟩) 2 2, Value.slice (some ⟨w.heap.size + 1 + 1 + 1 + 1, 0, none⟩) 2 2] 23) := ⟨_, rfl⟩
  have zv6 : v6.heap[w.heap.size + 1 + 1 + 1 + 1 + 1]? = some (Obj.cells #[Value.slice (some ⟨w.heap.size + 1 + 1 + 1, 0, none⟩) 2 2, Value.slice (some ⟨w.heap.size + 1 + 1 + 1 + 1, 0, none⟩) 2 2] 23 (0, 0)) ∧ v6.heap.size = w.heap.size + 1 + 1 + 1 + 1 + 1 + 1 := by rw [ev6]; exact alloc_at zv5.2
  have bv6 : Below v5.heap.size v5 v6 := by rw [ev6]; exact below_alloc _ _
  have HP : Hid (RowsF v6 (some ⟨w.heap.size + 1 + 1, 0, none⟩) fxP) := Lib.hid (RowsF.below (rows2 zv3.1 ((blk_ints (l := [0, 1]) (show BlkI v1 _ _ from zv1.1) (by decide)).below (below_trans bv2 bv3)) ((blk_ints (l := [0, 1]) (show BlkI v2 _ _ from zv2.1) (by decide)).below bv3) rfl rfl (by decide) (by decide)) (below_trans (below_trans bv4 bv5) bv6))
  have HQ : Hid (RowsF v6 (some ⟨w.heap.size + 1 + 1 + 1 + 1 + 1, 0, none⟩) fxR) := Lib.hid (rows2 zv6.1 ((blk_ints (l := [1, 0]) (show BlkI v4 _ _ from zv4.1) (by decide)).below (below_trans bv5 bv6)) ((blk_ints (l := [1, 0]) (show BlkI v5 _ _ from zv5.1) (by decide)).below bv6) rfl rfl (by decide) (by decide))
  have HZ : Hid (Below w.heap.size w v6) := Lib.hid (below_trans (below_trans (below_trans (below_trans (below_trans bv1 bv2) bv3) bv4) bv5) bv6)
  have K := Lib.hid (fxa_w (ca := 2) (cb := 2) HP.out HQ.out)
  have Ev1 := Lib.hid ev1.symm
  have Ev2 := Lib.hid ev2.symm
  have Ev3 := Lib.hid ev3.symm
  have Ev4 := Lib.hid ev4.symm
  have Ev5 := Lib.hid ev5.symm
  have Ev6 := Lib.hid ev6.symm
  clear zv1 bv1
  clear zv2 bv2
  clear zv3 bv3
  clear zv4 bv4
  clear zv5 bv5
  clear zv6 bv6
  clear ev6 ev5 ev4 ev3 ev2 ev1
  go_enter Try.func15, Try.ntmps15
  go_wp2_with fail
  rw [Ev1.out, Ev2.out, Ev3.out, Ev4.out, Ev5.out, Ev6.out]
  refine K.out.mono ?_
  rintro en1 w1 ⟨⟨va1, vc1, rfl, hI⟩, hb⟩
  have HI1 := Lib.hid hI
  have HZ1 := Lib.hid (below_trans HZ.out hb)
  have HP1 := Lib.hid (HP.out.below hb)
  clear hI hb K HP HQ HZ Ev1 Ev2 Ev3 Ev4 Ev5 Ev6
  obtain ⟨xp, hxp⟩ : ∃ x, x = w.heap.size + 1 + 1 := ⟨_, rfl⟩
  rw [← hxp] at HP1 ⊢
  clear hxp
  obtain ⟨v7, ev7⟩ : ∃ x, x = w1.alloc (Obj.cells #[Value.int .i64 1, Value.int .i64 0, Value.int .i64 2] 3) := ⟨_, rfl⟩
  have zv7 : v7.heap[w1.heap.size]? = some (Obj.cells #[Value.int .i64 1, Value.int .i64 0, Value.int .i64 2] 3 (0, 0)) ∧ v7.heap.size = w1.heap.size + 1 := by rw [ev7]; exact alloc_at rfl
  have bv7 : Below w1.heap.size w1 v7 := by rw [ev7]; exact below_alloc _ _
  obtain ⟨v8, ev8⟩ : ∃ x, x = v7.alloc (Obj.cells #[Value.int .i64 0, Value.int .i64 1, Value.int .i64 2] 3) := ⟨_, rfl⟩
  have zv8 : v8.heap[w1.heap.size + 1]? = some (Obj.cells #[Value.int .i64 0, Value.int .i64 1, Value.int .i64 2] 3 (0, 0)) ∧ v8.heap.size = w1.heap.size + 1 + 1 := by rw [ev8]; exact alloc_at zv7.2
  have bv8 : Below v7.heap.size v7 v8 := by rw [ev8]; exact below_alloc _ _
  obtain ⟨v9, ev9⟩ : ∃ x, x = v8.alloc (Obj.cells #[Value.int .i64 0, Value.int .i64 1, Value.int .i64 2] 3) := ⟨_, rfl⟩
  have zv9 : v9.heap[w1.heap.size + 1 + 1]? = some (Obj.cells #[Value.int .i64 0, Value.int .i64 1, Value.int .i64 2] 3 (0, 0)) ∧ v9.heap.size = w1.heap.size + 1 + 1 + 1 := by rw [ev9]; exact alloc_at zv8.2
  have bv9 : Below v8.heap.size v8 v9 := by rw [ev9]; exact below_alloc _ _
  obtain ⟨v10, ev10⟩ : ∃ x, x = v9.alloc (Obj.cells #[Value.slice (some ⟨w1.heap.size, 0, none⟩) 3 3, Value.slice (some ⟨w1.heap.size + 1, 0, none⟩) 3 3, Value.slice (some ⟨w1.heap.size + 1 + 1, 0, none⟩) 3 3] 23) := ⟨_, rfl⟩
  have zv10 : v10.heap[w1.heap.size + 1 + 1 + 1]? = some (Obj.cells #[Value.slice (some ⟨w1.heap.size, 0, none⟩) 3 3, Value.slice (some ⟨w1.heap.size + 1, 0, none⟩) 3 3, Value.slice (some ⟨w1.heap.size + 1 + 1, 0, none⟩) 3 3] 23 (0, 0)) ∧ v10.heap.size = w1.heap.size + 1 + 1 + 1 + 1 := by rw [ev10]; exact alloc_at zv9.2
  have bv10 : Below v9.heap.size v9 v10 := by rw [ev10]; exact below_alloc _ _
  have HT : Hid (RowsF v10 (some ⟨w1.heap.size + 1 + 1 + 1, 0, none⟩) fxT) := Lib.hid (rows3 zv10.1 ((blk_ints (l := [1, 0, 2]) (show BlkI v7 _ _ from zv7.1) (by decide)).below (below_trans (below_trans bv8 bv9) bv10)) ((blk_ints (l := [0, 1, 2]) (show BlkI v8 _ _ from zv8.1) (by decide)).below (below_trans bv9 bv10)) ((blk_ints (l := [0, 1, 2]) (show BlkI v9 _ _ from zv9.1) (by decide)).below bv10) rfl rfl rfl (by decide) (by decide) (by decide))
  have HB : Hid (Below w1.heap.size w1 v10) := Lib.hid (below_trans (below_trans (below_trans bv7 bv8) bv9) bv10)
  have K := Lib.hid (fxt_w (ca := 3) HT.out)
  have Ev7 := Lib.hid ev7.symm
  have Ev8 := Lib.hid ev8.symm
  have Ev9 := Lib.hid ev9.symm
  have Ev10 := Lib.hid ev10.symm
  clear zv7 bv7
  clear zv8 bv8
  clear zv9 bv9
  clear zv10 bv10
  clear ev10 ev9 ev8 ev7
  go_wp2_with fail
  rw [Ev7.out, Ev8.out, Ev9.out, Ev10.out]
  refine K.out.mono ?_
  rintro en2 w2 ⟨⟨va2, vc2, rfl, hI⟩, hb⟩
  have HI2 := Lib.hid hI
  have HB2 := Lib.hid (below_trans HB.out hb)
  have HZ2 := Lib.hid (below_trans HZ1.out HB2.out)
  have HP2 := Lib.hid (HP1.out.below HB2.out)
  have HI1b := Lib.hid (HI1.out.below HB2.out)
  clear hI hb K HT HB HB2 HZ1 HP1 HI1 Ev7 Ev8 Ev9 Ev10
  obtain ⟨v11, ev11⟩ : ∃ x, x = w2.alloc (Obj.cells #[Value.int .i64 1, Value.int .i64 0] 3) := ⟨_, rfl⟩
  have zv11 : v11.heap[w2.heap.size]? = some (Obj.cells #[Value.int .i64 1, Value.int .i64 0] 3 (0, 0)) ∧ v11.heap.size = w2.heap.size + 1 := by rw [ev11]; exact alloc_at rfl
  have bv11 : Below w2.heap.size w2 v11 := by rw [ev11]; exact below_alloc _ _
  obtain ⟨v12, ev12⟩ : ∃ x, x = v11.alloc (Obj.cells #[Value.int .i64 0] 3) := ⟨_, rfl⟩
  have zv12 : v12.heap[w2.heap.size + 1]? = some (Obj.cells #[Value.int .i64 0] 3 (0, 0)) ∧ v12.heap.size = w2.heap.size + 1 + 1 := by rw [ev12]; exact alloc_at zv11.2
  have bv12 : Below v11.heap.size v11 v12 := by rw [ev12]; exact below_alloc _ _
  obtain ⟨v13, ev13⟩ : ∃ x, x = v12.alloc (Obj.cells #[Value.int .i64 0, Value.int .i64 1] 3) := ⟨_, rfl⟩
  have zv13 : v13.heap[w2.heap.size + 1 + 1]? = some (Obj.cells #[Value.int .i64 0, Value.int .i64 1] 3 (0, 0)) ∧ v13.heap.size = w2.heap.size + 1 + 1 + 1 := by rw [ev13]; exact alloc_at zv12.2
  have bv13 : Below v12.heap.size v12 v13 := by rw [ev13]; exact below_alloc _ _
  obtain ⟨v14, ev14⟩ : ∃ x, x = v13.alloc (Obj.cells #[Value.slice (some ⟨w2.heap.size + 1, 0, none⟩) 1 1, Value.slice (some ⟨w2.heap.size + 1 + 1, 0, none⟩) 2 2] 23) := ⟨_, rfl⟩
  have zv14 : v14.heap[w2.heap.size + 1 + 1 + 1]? = some (Obj.cells #[Value.slice (some ⟨w2.heap.size + 1, 0, none⟩) 1 1, Value.slice (some ⟨w2.heap.size + 1 + 1, 0, none⟩) 2 2] 23 (0, 0)) ∧ v14.heap.size = w2.heap.size + 1 + 1 + 1 + 1 := by rw [ev14]; exact alloc_at zv13.2
  have bv14 : Below v13.heap.size v13 v14 := by rw [ev14]; exact below_alloc _ _
  have HT : Hid (RowsF v14 (some ⟨w2.heap.size + 1 + 1 + 1, 0, none⟩) fxW) := Lib.hid (rows2 zv14.1 ((blk_ints (l := [0]) (show BlkI v12 _ _ from zv12.1) (by decide)).below (below_trans bv13 bv14)) ((blk_ints (l := [0, 1]) (show BlkI v13 _ _ from zv13.1) (by decide)).below bv14) rfl rfl (by decide) (by decide))
  have HO : Hid (IntsF v14 (some ⟨w2.heap.size, 0, none⟩) [1, 0]) := Lib.hid ((blk_ints (l := [1, 0]) (show BlkI v11 _ _ from zv11.1) (by decide)).below (below_trans (below_trans bv12 bv13) bv14))
  have HB : Hid (Below w2.heap.size w2 v14) := Lib.hid (below_trans (below_trans (below_trans bv11 bv12) bv13) bv14)
  have K := Lib.hid (fxs_w (c := 2) (ca := 2) HO.out HT.out)
  have Ev11 := Lib.hid ev11.symm
  have Ev12 := Lib.hid ev12.symm
  have Ev13 := Lib.hid ev13.symm
  have Ev14 := Lib.hid ev14.symm
  clear zv11 bv11
  clear zv12 bv12
  clear zv13 bv13
  clear zv14 bv14
  clear ev14 ev13 ev12 ev11
  go_wp2_with fail
  rw [Ev11.out, Ev12.out, Ev13.out, Ev14.out]
  refine K.out.mono ?_
  rintro en3 w3 ⟨⟨va3, vc3, rfl, hI⟩, hb⟩
  have HI3 := Lib.hid hI
  have HB2 := Lib.hid (below_trans HB.out hb)
  have HZ3 := Lib.hid (below_trans HZ2.out HB2.out)
  have HP3 := Lib.hid (HP2.out.below HB2.out)
  have HI1c := Lib.hid (HI1b.out.below HB2.out)
  have HI2c := Lib.hid (HI2.out.below HB2.out)
  clear hI hb K HT HO HB HB2 HZ2 HP2 HI1b HI2 Ev11 Ev12 Ev13 Ev14
  obtain ⟨v15, ev15⟩ : ∃ x, x = w3.alloc (Obj.cells #[Value.int .i64 1, Value.int .i64 9, Value.int .i64 4] 3) := ⟨_, rfl⟩
  have zv15 : v15.heap[w3.heap.size]? = some (Obj.cells #[Value.int .i64 1, Value.int .i64 9, Value.int .i64 4] 3 (0, 0)) ∧ v15.heap.size = w3.heap.size + 1 := by rw [ev15]; exact alloc_at rfl
  have bv15 : Below w3.heap.size w3 v15 := by rw [ev15]; exact below_alloc _ _
  obtain ⟨v16, ev16⟩ : ∃ x, x = v15.alloc (Obj.cells #[Value.int .i64 0, Value.int .i64 10] 3) := ⟨_, rfl⟩
  have zv16 : v16.heap[w3.heap.size + 1]? = some (Obj.cells #[Value.int .i64 0, Value.int .i64 10] 3 (0, 0)) ∧ v16.heap.size = w3.heap.size + 1 + 1 := by rw [ev16]; exact alloc_at zv15.2
  have bv16 : Below v15.heap.size v15 v16 := by rw [ev16]; exact below_alloc _ _
  have HO : Hid (IntsF v16 (some ⟨w3.heap.size, 0, none⟩) [1, 9, 4]) := Lib.hid ((blk_ints (l := [1, 9, 4]) (show BlkI v15 _ _ from zv15.1) (by decide)).below bv16)
  have HT : Hid (IntsF v16 (some ⟨w3.heap.size + 1, 0, none⟩) [0, 10]) := Lib.hid (blk_ints (l := [0, 10]) (show BlkI v16 _ _ from zv16.1) (by decide))
  have HB : Hid (Below w3.heap.size w3 v16) := Lib.hid (below_trans bv15 bv16)
  have K := Lib.hid (fxm_w HO.out HT.out)
  have Ev15 := Lib.hid ev15.symm
  have Ev16 := Lib.hid ev16.symm
  clear zv15 bv15
  clear zv16 bv16
  clear ev16 ev15
  go_wp2_with fail
  rw [Ev15.out, Ev16.out]
  refine K.out.mono ?_
  rintro en4 w4 ⟨rfl, hb⟩
  have HB2 := Lib.hid (below_trans HB.out hb)
  have HZ4 := Lib.hid (below_trans HZ3.out HB2.out)
  have HP4 := Lib.hid (HP3.out.below HB2.out)
  have HI1d := Lib.hid (HI1c.out.below HB2.out)
  have HI2d := Lib.hid (HI2c.out.below HB2.out)
  have HI3d := Lib.hid (HI3.out.below HB2.out)
  clear hb K HT HO HB HB2 HZ3 HP3 HI1c HI2c HI3 Ev15 Ev16
  obtain ⟨v17, ev17⟩ : ∃ x, x = w4.alloc (Obj.cells #[Value.int .i64 1, Value.int .i64 0] 3) := ⟨_, rfl⟩
  have zv17 : v17.heap[w4.heap.size]? = some (Obj.cells #[Value.int .i64 1, Value.int .i64 0] 3 (0, 0)) ∧ v17.heap.size = w4.heap.size + 1 := by rw [ev17]; exact alloc_at rfl
  have bv17 : Below w4.heap.size w4 v17 := by rw [ev17]; exact below_alloc _ _
  obtain ⟨v18, ev18⟩ : ∃ x, x = v17.alloc (Obj.cells #[Value.int .i64 1, Value.int .i64 0] 3) := ⟨_, rfl⟩
  have zv18 : v18.heap[w4.heap.size + 1]? = some (Obj.cells #[Value.int .i64 1, Value.int .i64 0] 3 (0, 0)) ∧ v18.heap.size = w4.heap.size + 1 + 1 := by rw [ev18]; exact alloc_at zv17.2
  have bv18 : Below v17.heap.size v17 v18 := by rw [ev18]; exact below_alloc _ _
  obtain ⟨v19, ev19⟩ : ∃ x, x = v18.alloc (Obj.cells #[Value.slice (some ⟨w4.heap.size, 0, none⟩) 2 2, Value.slice (some ⟨w4.heap.size + 1, 0, none⟩) 2 2] 23) := ⟨_, rfl⟩
  have zv19 : v19.heap[w4.heap.size + 1 + 1]? = some (Obj.cells #[Value.slice (some ⟨w4.heap.size, 0, none⟩) 2 2, Value.slice (some ⟨w4.heap.size + 1, 0, none⟩) 2 2] 23 (0, 0)) ∧ v19.heap.size = w4.heap.size + 1 + 1 + 1 := by rw [ev19]; exact alloc_at zv18.2
  have bv19 : Below v18.heap.size v18 v19 := by rw [ev19]; exact below_alloc _ _
  obtain ⟨v20, ev20⟩ : ∃ x, x = v19.alloc (Obj.cells #[Value.int .i64 0, Value.int .i64 1] 3) := ⟨_, rfl⟩
  have zv20 : v20.heap[w4.heap.size + 1 + 1 + 1]? = some (Obj.cells #[Value.int .i64 0, Value.int .i64 1] 3 (0, 0)) ∧ v20.heap.size = w4.heap.size + 1 + 1 + 1 + 1 := by rw [ev20]; exact alloc_at zv19.2
  have bv20 : Below v19.heap.size v19 v20 := by rw [ev20]; exact below_alloc _ _
  have HQ : Hid (RowsF v20 (some ⟨w4.heap.size + 1 + 1, 0, none⟩) fxR) := Lib.hid (RowsF.below (rows2 zv19.1 ((blk_ints (l := [1, 0]) (show BlkI v17 _ _ from zv17.1) (by decide)).below (below_trans bv18 bv19)) ((blk_ints (l := [1, 0]) (show BlkI v18 _ _ from zv18.1) (by decide)).below bv19) rfl rfl (by decide) (by decide)) bv20)
  have HO : Hid (IntsF v20 (some ⟨w4.heap.size + 1 + 1 + 1, 0, none⟩) [0, 1]) := Lib.hid (blk_ints (l := [0, 1]) (show BlkI v20 _ _ from zv20.1) (by decide))
  have HB : Hid (Below w4.heap.size w4 v20) := Lib.hid (below_trans (below_trans (below_trans bv17 bv18) bv19) bv20)
  have K := Lib.hid (fxb_w (ca := 2) (cb := 2) (c := 2) (HP4.out.below HB.out) HQ.out HO.out)
  have Ev17 := Lib.hid ev17.symm
  have Ev18 := Lib.hid ev18.symm
  have Ev19 := Lib.hid ev19.symm
  have Ev20 := Lib.hid ev20.symm
  clear zv17 bv17
  clear zv18 bv18
  clear zv19 bv19
  clear zv20 bv20
  clear ev20 ev19 ev18 ev17
  go_wp2_with fail
  rw [Ev17.out, Ev18.out, Ev19.out, Ev20.out]
  refine K.out.mono ?_
  rintro en5 w5 ⟨rfl, hb⟩
  have HB2 := Lib.hid (below_trans HB.out hb)
  have HZ5 := Lib.hid (below_trans HZ4.out HB2.out)
  have HI1e := Lib.hid (HI1d.out.below HB2.out)
  have HI2e := Lib.hid (HI2d.out.below HB2.out)
  have HI3e := Lib.hid (HI3d.out.below HB2.out)
  clear hb K HQ HO HB HB2 HZ4 HP4 HI1d HI2d HI3d Ev17 Ev18 Ev19 Ev20
  obtain ⟨v21, ev21⟩ : ∃ x, x = w5.alloc (Obj.cells #[Value.int .i64 1, Value.int .i64 0] 3) := ⟨_, rfl⟩
  have zv21 : v21.heap[w5.heap.size]? = some (Obj.cells #[Value.int .i64 1, Value.int .i64 0] 3 (0, 0)) ∧ v21.heap.size = w5.heap.size + 1 := by rw [ev21]; exact alloc_at rfl
  have bv21 : Below w5.heap.size w5 v21 := by rw [ev21]; exact below_alloc _ _
  have HO : Hid (IntsF v21 (some ⟨w5.heap.size, 0, none⟩) [1, 0]) := Lib.hid (blk_ints (l := [1, 0]) (show BlkI v21 _ _ from zv21.1) (by decide))
  have HB : Hid (Below w5.heap.size w5 v21) := Lib.hid bv21
  have K := Lib.hid (fxi_w (c := vc1) (d := 2) (n := 2) (HI1e.out.below HB.out) HO.out rfl (by decide))
  have Ev21 := Lib.hid ev21.symm
  clear zv21 bv21
  clear ev21
  go_wp2_with fail
  rw [Ev21.out]
  refine K.out.mono ?_
  rintro en6 w6 ⟨rfl, hb⟩
  have HB2 := Lib.hid (below_trans HB.out hb)
  have HZ6 := Lib.hid (below_trans HZ5.out HB2.out)
  have HI2e9 := Lib.hid (HI2e.out.below HB2.out)
  clear HI2e
  have HI2e := HI2e9
  clear HI2e9
  have HI3e9 := Lib.hid (HI3e.out.below HB2.out)
  clear HI3e
  have HI3e := HI3e9
  clear HI3e9
  clear hb K HO HB HB2 HZ5 HI1e Ev21
  obtain ⟨v22, ev22⟩ : ∃ x, x = w6.alloc (Obj.cells #[Value.int .i64 1, Value.int .i64 0, Value.int .i64 2] 3) := ⟨_, rfl⟩
  have zv22 : v22.heap[w6.heap.size]? = some (Obj.cells #[Value.int .i64 1, Value.int .i64 0, Value.int .i64 2] 3 (0, 0)) ∧ v22.heap.size = w6.heap.size + 1 := by rw [ev22]; exact alloc_at rfl
  have bv22 : Below w6.heap.size w6 v22 := by rw [ev22]; exact below_alloc _ _
  have HO : Hid (IntsF v22 (some ⟨w6.heap.size, 0, none⟩) [1, 0, 2]) := Lib.hid (blk_ints (l := [1, 0, 2]) (show BlkI v22 _ _ from zv22.1) (by decide))
  have HB : Hid (Below w6.heap.size w6 v22) := Lib.hid bv22
  have K := Lib.hid (fxi_w (c := vc2) (d := 3) (n := 3) (HI2e.out.below HB.out) HO.out rfl (by decide))
  have Ev22 := Lib.hid ev22.symm
  clear zv22 bv22
  clear ev22
  go_wp2_with fail
  rw [Ev22.out]
  refine K.out.mono ?_
  rintro en7 w7 ⟨rfl, hb⟩
  have HB2 := Lib.hid (below_trans HB.out hb)
  have HZ7 := Lib.hid (below_trans HZ6.out HB2.out)
  have HI3e9 := Lib.hid (HI3e.out.below HB2.out)
  clear HI3e
  have HI3e := HI3e9
  clear HI3e9
  clear hb K HO HB HB2 HZ6 HI2e Ev22
  obtain ⟨v23, ev23⟩ : ∃ x, x = w7.alloc (Obj.cells #[Value.int .i64 (-1), Value.int .i64 0] 3) := ⟨_, rfl⟩
  have zv23 : v23.heap[w7.heap.size]? = some (Obj.cells #[Value.int .i64 (-1), Value.int .i64 0] 3 (0, 0)) ∧ v23.heap.size = w7.heap.size + 1 := by rw [ev23]; exact alloc_at rfl
  have bv23 : Below w7.heap.size w7 v23 := by rw [ev23]; exact below_alloc _ _
  have HO : Hid (IntsF v23 (some ⟨w7.heap.size, 0, none⟩) [-1, 0]) := Lib.hid (blk_ints (l := [-1, 0]) (show BlkI v23 _ _ from zv23.1) (by decide))
  have HB : Hid (Below w7.heap.size w7 v23) := Lib.hid bv23
  have K := Lib.hid (fxi_w (c := vc3) (d := 2) (n := 2) (HI3e.out.below HB.out) HO.out rfl (by decide))
  have Ev23 := Lib.hid ev23.symm
  clear zv23 bv23
  clear ev23
  go_wp2_with fail
  rw [Ev23.out]
  refine K.out.mono ?_
  rintro en8 w8 ⟨rfl, hb⟩
  have HB2 := Lib.hid (below_trans HB.out hb)
  have HZ8 := Lib.hid (below_trans HZ7.out HB2.out)
  clear hb K HO HB HB2 HZ7 HI3e Ev23
  go_wp2_with fail
  go_ret
  exact ⟨rfl, HZ8.out⟩
end Go.Proofs.Ytomnnickiljkgaa
