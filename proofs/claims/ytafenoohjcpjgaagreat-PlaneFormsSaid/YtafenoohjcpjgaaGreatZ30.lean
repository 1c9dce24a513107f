/- Several texts in one: Yb, Yf. -/
import Derived.Test.YtafenoohjcpjgaaGreatZ29
import Derived.Deep.RegionHeld3
import Derived.Deep.DrawnRows
/- bound: some variables are exactly their bits. -/
namespace Go.Proofs.YtafenoohjcpjgaaGreat
open Go.RowKit
attribute [local go_sem ↓] Go.wp_at_zero Go.wp_at_succ

/-- Rows in which one variable is exactly its bit. -/
def bitR (z : Int) : Rat := makeQ z 1
def bndR (n : Nat) (l bs : List Int) (i : Nat) : List Rat × Int × Rat := (unitQ n ((l[i]?).getD 0).toNat, 0, bitR ((bs[i]?).getD 0))
def bndL (n : Nat) (l bs : List Int) (k : Nat) : List (List Rat × Int × Rat) := (List.range k).map (bndR n l bs)
theorem bndL_succ (n : Nat) (l bs : List Int) (k : Nat) : bndL n l bs k ++ [bndR n l bs k] = bndL n l bs (k + 1) := by
  unfold bndL
  rw [List.range_succ, List.map_append]
  rfl
theorem bndL_len (n : Nat) (l bs : List Int) (k : Nat) : (bndL n l bs k).length = k := by simp [bndL]
theorem LRo.otherT {K : RowK} (hK : BlkK K) {w w' : World} {base : Nat} {v : Value} {rs : List (List Rat × Int × Rat)} {B : Nat} {cs : Array Value} {t : TypeId} {fr : Nat × Nat} (h : LRo K w base v rs) (hB : w.heap[B]? = some (.cells cs t fr)) (ht : t ≠ 43) (ht2 : t ≠ 45) (hcs : ∀ (j k : Nat), cs[j]? ≠ some (U k)) (ho : Only B w w') : LRo K w' base v rs := by
  obtain ⟨xs, hx, hc, he⟩ := h
  have hown : ∀ g, v.ownBlock = some g → g ≠ B := by
    intro g hg e
    rcases hx.2 with ⟨rfl, -⟩ | ⟨g', cap', cur', rfl, -, hh, -⟩
    · simp [Value.ownBlock] at hg
    · have h9 : some g' = some g := hg
      rw [Option.some.inj h9, e, hB] at hh
      simp only [Option.some.injEq, Obj.cells.injEq] at hh
      exact ht2 hh.2.1
  refine ⟨xs, World.ownsRow.kept (row := some B) hx (only_grown ho) (by
    cases hv : v.ownBlock with
    | none => simp
    | some g => exact Or.inr (by have := hown g hv; intro e; cases e; exact this rfl)), ?_, fun j r hr => ?_⟩
  · intro g cs' e fr' hv hh
    rw [ho.block g (hown g hv)] at hh
    exact hc g cs' e fr' hv hh
  · obtain ⟨a, n, c, b, a1, n1, c1, a2, n2, c2, h0, h1, h2, h3, h4, hl, hf, hne⟩ := he j r hr
    exact ⟨a, n, c, b, a1, n1, c1, a2, n2, c2, h0, h1, h2, h3, h4, K.otherL hl hB hcs ho (fun g hg e => by
      obtain ⟨cs9, h9⟩ := hK hl g hg
      rw [e, hB] at h9
      simp only [Option.some.injEq, Obj.cells.injEq] at h9
      exact ht h9.2.1), K.otherF hf hB hcs ho, fun g hg => ⟨(hne g hg).1, Nat.lt_of_lt_of_le (hne g hg).2.1 (Nat.le_of_eq ho.size.symm), (hne g hg).2.2⟩⟩
set_option maxRecDepth 100000 in
set_option maxHeartbeats 4000000 in
set_option linter.unusedSimpArgs false in
theorem bound_w {w : World} {n m fn fc gn gc rn rc vc bc base : Nat} {fa ga ra va ba : Option Addr} {rs : List (List Rat × Int × Rat)} {l bs : List Int} (hL : LRo rkV w base (.slice ra rn rc) rs) (hbase : base ≤ w.heap.size) (hl : IntsF w va l) (hbs : IntsF w ba bs) (hm : m = l.length) (hlb : l.length = bs.length) (hok : ∀ (i : Nat) (v : Int), l[i]? = some v → 0 ≤ v ∧ v < n) (hn : n ≤ 1000) (hrn : rn ≤ 1000) (hm9 : m ≤ 1000) :
    Calls Tryz.prog 32 #[.agg #[.int .i64 (n : Nat), .slice fa fn fc, .slice ga gn gc, .slice ra rn rc], .slice va m vc, .slice ba m bc] w fun e w' => (∃ oa oc, e = .returned (.agg #[.int .i64 (n : Nat), .slice fa fn fc, .slice ga gn gc, .slice oa (rn + m) oc]) ∧ LRo rkV w' base (.slice oa (rn + m) oc) (rs ++ bndL n l bs m)) ∧ Below w.heap.size w w' := by
  have HRN : Hid (rs.length = rn) := Lib.hid (by
    obtain ⟨a', c', hq⟩ := hL.form
    simp only [Value.slice.injEq] at hq
    exact hq.2.1.symm)
  have HI := Lib.hid hl
  have HIB := Lib.hid hbs
  have HM : Hid (m = l.length ∧ l.length = bs.length) := Lib.hid ⟨hm, hlb⟩
  have HOKV := Lib.hid hok
  have HBS := Lib.hid hbase
  obtain ⟨w1, hw1⟩ : ∃ w1, w1 = (w.alloc (Obj.cells #[Value.int .i64 (n : Int), Value.slice fa fn fc, Value.slice ga gn gc, Value.slice ra rn rc] 26)).alloc (Obj.cells #[Value.int .i64 0, Value.slice none 0 0, Value.slice none 0 0, Value.slice none 0 0] 26) := ⟨_, rfl⟩
  have HB1 : Hid (Below w.heap.size w w1) := Lib.hid (by rw [hw1]; exact ((Below.refl _ _).alloc (Nat.le_refl _) _).alloc (by simp) _)
  have HX1 : Hid (w1.heap[w.heap.size]? = some (.cells #[Value.int .i64 (n : Int), Value.slice fa fn fc, Value.slice ga gn gc, Value.slice ra rn rc] 26 (0, 0))) := Lib.hid (by rw [hw1]; exact heap_alloc2_old w _ _)
  have HO1 : Hid (w1.heap[w.heap.size + 1]? = some (.cells #[Value.int .i64 0, Value.slice none 0 0, Value.slice none 0 0, Value.slice none 0 0] 26 (0, 0))) := Lib.hid (by rw [hw1]; exact heap_alloc2_new w _ _)
  have HS1 : Hid (w1.heap.size = w.heap.size + 2) := Lib.hid (by rw [hw1]; simp)
  have HW1 := Lib.hid hw1.symm
  have KC := Lib.hid (rclone_w blk_rkV (hL.below HB1.out) hrn (by have := HS1.out; omega))
  have x3 := cells_later HX1.out 3 _ rfl _ (Below.refl _ _)
  clear hL hbase hl hbs hm hlb hok hw1
  go_enter Tryz.func32, Tryz.ntmps32
  go_wp2_with fail
  rw [HW1.out]
  refine KC.out.mono ?_
  rintro en2 w2 ⟨⟨a2, c2, rfl, hl2, hk2⟩, hb2⟩
  obtain ⟨XB, hXB⟩ : ∃ x, x = w.heap.size := ⟨_, rfl⟩
  have HXB : Hid (w.heap.size = XB) := Lib.hid hXB.symm
  have HRX : Hid (w.heap.size + 1 ≠ XB) := Lib.hid (by omega)
  have HX2 : Hid (w2.heap[XB]? = some (.cells #[Value.int .i64 (n : Int), Value.slice fa fn fc, Value.slice ga gn gc, Value.slice ra rn rc] 26 (0, 0))) := Lib.hid (by rw [hXB]; exact (hb2.block _ (lt_of_block HX1.out)).trans HX1.out)
  rw [← hXB]
  have HON := Lib.hid (set3_only w2 XB (Value.slice a2 rn c2))
  have HG3 : Hid ((w2.setCell ⟨XB, 3, none⟩ (Value.slice a2 rn c2)).heap[XB]? = some (.cells #[Value.int .i64 (n : Int), Value.slice fa fn fc, Value.slice ga gn gc, Value.slice a2 (rn + 0) c2] 26 (0, 0))) := Lib.hid (set3_row HX2.out)
  have HL3 : Hid (LRo rkV (w2.setCell ⟨XB, 3, none⟩ (Value.slice a2 rn c2)) base (.slice a2 (rn + 0) c2) (rs ++ bndL n l bs 0)) := Lib.hid (by
    rw [show bndL n l bs 0 = [] from rfl, List.append_nil]
    exact hl2.otherT blk_rkV HX2.out (by decide) (by decide) prog_cells HON.out)
  have HR3 := Lib.hid ((HON.out.block _ HRX.out).trans ((hb2.block _ (lt_of_block HO1.out)).trans HO1.out))
  have HZ3 := Lib.hid (below_only (below_trans HB1.out hb2) HON.out (Nat.le_of_eq HXB.out))
  have HS3 : Hid (w.heap.size ≤ (w2.setCell ⟨XB, 3, none⟩ (Value.slice a2 rn c2)).heap.size) := Lib.hid (by rw [HON.out.size]; have := hb2.size; have := HS1.out; omega)
  have HS4 : Hid (w.heap.size + 2 ≤ (w2.setCell ⟨XB, 3, none⟩ (Value.slice a2 rn c2)).heap.size) := Lib.hid (by rw [HON.out.size]; have := hb2.size; have := HS1.out; omega)
  have HK3 : Hid (∀ k, (Value.slice a2 (rn + 0) c2).ownBlock = some k → w.heap.size + 2 ≤ k) := Lib.hid (fun k hk => by have h1 := hk2 k hk; have := HS1.out; omega)
  have g3 := cells_later HX2.out 3 _ rfl _ (Below.refl _ _)
  have g4 := frozen_of_row _ _ 3 _ _ HX2.out
  clear hl2 hk2 hb2 hXB KC x3
  go_wp2_with fail
  clear g3 g4
  go_loopw [15] (fun iv wr => ∃ (i : Nat) (oa : Option Addr) (oc : Nat), i ≤ m ∧ iv = .int .i64 i ∧ Hid (wr.heap[XB]? = some (.cells #[Value.int .i64 (n : Int), Value.slice fa fn fc, Value.slice ga gn gc, Value.slice oa (rn + i) oc] 26 (0, 0))) ∧ Hid (LRo rkV wr base (.slice oa (rn + i) oc) (rs ++ bndL n l bs i)) ∧ Hid (wr.heap[w.heap.size + 1]? = some (.cells #[Value.int .i64 0, Value.slice none 0 0, Value.slice none 0 0, Value.slice none 0 0] 26 (0, 0))) ∧ Hid (Below w.heap.size w wr) ∧ Hid (w.heap.size ≤ wr.heap.size) ∧ Hid (w.heap.size + 2 ≤ wr.heap.size) ∧ Hid (∀ k, (Value.slice oa (rn + i) oc).ownBlock = some k → w.heap.size + 2 ≤ k)) (fun iv _ => m - (intOf iv).toNat)
  case atStart => exact ⟨0, _, _, Nat.zero_le _, rfl, HG3, HL3, HR3, HZ3, HS3, HS4, HK3⟩
  case round =>
    obtain ⟨i, oa, oc, hi, rfl, hG, hO, hR, hZ, hsz, hsz2, hob⟩ := hrel
    obtain ⟨wo, rfl⟩ : ∃ wo : World, wo = wr := ⟨_, rfl⟩
    by_cases hin : i < m
    · have t0 : decide ((i : Int) < (m : Int)) = true := by simp; omega
      obtain ⟨z, Bv, offv, hz, ha, hzb, hcv⟩ := HI.out.at (i := i) (by have := HM.out; omega)
      obtain ⟨bz, Bb, offb, hbz, hab, hzb2, hcb⟩ := HIB.out.at (i := i) (by have := HM.out; omega)
      obtain ⟨v, rfl⟩ : ∃ v : Nat, z = (v : Int) := ⟨z.toNat, by have := (HOKV.out i z hz).1; omega⟩
      have hvn : v < n := by have := (HOKV.out i _ hz).2; omega
      subst ha
      subst hab
      have e1 := hcv wo hZ.out
      have HCBW : Hid (∀ w', Below w.heap.size w w' → w'.cell? ⟨Bb, offb + i, none⟩ = some (.int .i64 bz)) := Lib.hid hcb
      have HCB : Hid (∀ w', Below wo.heap.size wo w' → w'.cell? ⟨Bb, offb + i, none⟩ = some (.int .i64 bz)) := Lib.hid (fun w' hb => hcb w' (below_trans hZ.out hb))
      obtain ⟨bq, hbq⟩ : ∃ q, q = bitR bz := ⟨_, rfl⟩
      have HBR : Hid ((bndR n l bs i).1 = unitQ n v ∧ (bndR n l bs i).2.2 = bq) := Lib.hid (by
        unfold bndR
        rw [hz, hbz, hbq]
        exact ⟨rfl, rfl⟩)
      have KA := Lib.hid (fun w' => alone_w (w := w') (s := 0) hvn hn hbq.symm hzb2.1 hzb2.2)
      have RY := Lib.hid (cells_later hG.out)
      have hz : Below wo.heap.size wo wo.drew := below_drewN (Below.refl _ _) 1
      clear hcv hcb hbz hbq
      go_wp2_with fail
      refine wp_region_to 13 (fun w' => w'.cell? ⟨XB, 0, none⟩ = some (.int .i64 (n : Nat)) ∧ w'.cell? ⟨XB, 3, none⟩ = some (.slice oa (rn + i) oc) ∧ w'.cell? ⟨Bb, offb + i, none⟩ = some (.int .i64 bz)) (by kernel_rfl) (by (try dsimp only); refine ⟨?_, ?_, ?_⟩ <;> (first | exact RY.out 0 _ rfl _ (by assumption) | exact RY.out 3 _ rfl _ (by assumption) | exact HCB.out _ (by assumption))) (fun hHeld => ?_)
      refine to_take (i := 0) (oi := _) (v := ?_) rfl (by kernel_rfl) (by kernel_rfl) (by kernel_rfl) (fun _ _ _ h => h) (by kernel_rfl) (by decide) (Or.inl ⟨by kernel_rfl, ?_⟩) (by assumption) ?_
      rotate_left
      · intro w hSw
        (try dsimp only at hSw)
        go_simp
        try with_reducible rfl
      try simp only [Act.put, List.getElem_toArray, List.getElem_cons_zero, List.getElem_cons_succ, List.setIfInBounds_toArray, List.set_cons_zero, List.set_cons_succ]
      refine to_take (i := 1) (oi := _) (v := ?_) rfl (by kernel_rfl) (by kernel_rfl) (by kernel_rfl) (fun _ _ _ h => h) (by kernel_rfl) (by decide) (Or.inl ⟨by kernel_rfl, ?_⟩) (by assumption) ?_
      rotate_left
      · intro w hSw
        (try dsimp only at hSw)
        go_simp
        try with_reducible rfl
      try simp only [Act.put, List.getElem_toArray, List.getElem_cons_zero, List.getElem_cons_succ, List.setIfInBounds_toArray, List.set_cons_zero, List.set_cons_succ]
      refine to_take (i := 2) (oi := _) (v := ?_) rfl (by kernel_rfl) (by kernel_rfl) (by kernel_rfl) (fun _ _ _ h => h) (by kernel_rfl) (by decide) (Or.inl ⟨by kernel_rfl, ?_⟩) (by assumption) ?_
      rotate_left
      · intro w hSw
        (try dsimp only at hSw)
        go_simp
        try with_reducible rfl
      try simp only [Act.put, List.getElem_toArray, List.getElem_cons_zero, List.getElem_cons_succ, List.setIfInBounds_toArray, List.set_cons_zero, List.set_cons_succ]
      refine to_take (i := 3) (oi := _) (v := ?_) rfl (by kernel_rfl) (by kernel_rfl) (by kernel_rfl) (fun _ _ _ h => h) (by kernel_rfl) (by decide) (Or.inl ⟨by kernel_rfl, ?_⟩) (by assumption) ?_
      rotate_left
      · intro w hSw
        (try dsimp only at hSw)
        go_simp
        try with_reducible rfl
      try simp only [Act.put, List.getElem_toArray, List.getElem_cons_zero, List.getElem_cons_succ, List.setIfInBounds_toArray, List.set_cons_zero, List.set_cons_succ]
      refine to_take (i := 4) (oi := _) (v := ?_) rfl (by kernel_rfl) (by kernel_rfl) (by kernel_rfl) (fun _ _ _ h => h) (by kernel_rfl) (by decide) (Or.inl ⟨by kernel_rfl, ?_⟩) (by assumption) ?_
      rotate_left
      · intro w hSw
        (try dsimp only at hSw)
        go_simp
        try with_reducible rfl
      try simp only [Act.put, List.getElem_toArray, List.getElem_cons_zero, List.getElem_cons_succ, List.setIfInBounds_toArray, List.set_cons_zero, List.set_cons_succ]
      refine to_take (i := 5) (oi := _) (v := ?_) rfl (by kernel_rfl) (by kernel_rfl) (by kernel_rfl) (fun _ _ _ h => h) (by kernel_rfl) (by decide) (Or.inl ⟨by kernel_rfl, ?_⟩) (by assumption) ?_
      rotate_left
      · intro w hSw
        (try dsimp only at hSw)
        go_simp
        try with_reducible rfl
      try simp only [Act.put, List.getElem_toArray, List.getElem_cons_zero, List.getElem_cons_succ, List.setIfInBounds_toArray, List.set_cons_zero, List.set_cons_succ]
      refine to_take (i := 6) (oi := _) (v := ?_) rfl (by kernel_rfl) (by kernel_rfl) (by kernel_rfl) (fun _ _ _ h => h) (by kernel_rfl) (by decide) (Or.inl ⟨by kernel_rfl, ?_⟩) (by assumption) ?_
      rotate_left
      · intro w hSw
        (try dsimp only at hSw)
        go_simp
        try with_reducible rfl
      try simp only [Act.put, List.getElem_toArray, List.getElem_cons_zero, List.getElem_cons_succ, List.setIfInBounds_toArray, List.set_cons_zero, List.set_cons_succ]
      refine to_take (i := 7) (oi := _) (v := ?_) rfl (by kernel_rfl) (by kernel_rfl) (by kernel_rfl) (fun _ _ _ h => h) (by kernel_rfl) (by decide) (Or.inl ⟨by kernel_rfl, ?_⟩) (by assumption) ?_
      rotate_left
      · intro w hSw
        (try dsimp only at hSw)
        go_simp
        try with_reducible rfl
      try simp only [Act.put, List.getElem_toArray, List.getElem_cons_zero, List.getElem_cons_succ, List.setIfInBounds_toArray, List.set_cons_zero, List.set_cons_succ]
      refine to_take (i := 8) (oi := _) (v := ?_) rfl (by kernel_rfl) (by kernel_rfl) (by kernel_rfl) (fun _ _ _ h => h) (by kernel_rfl) (by decide) (Or.inl ⟨by kernel_rfl, ?_⟩) (by assumption) ?_
      rotate_left
      · intro w hSw
        (try dsimp only at hSw)
        go_simp
        try with_reducible rfl
      try simp only [Act.put, List.getElem_toArray, List.getElem_cons_zero, List.getElem_cons_succ, List.setIfInBounds_toArray, List.set_cons_zero, List.set_cons_succ]
      refine to_ready (rs := [9]) (by kernel_rfl) (by simp) (AllTo.cons (o := _) rfl (fun K hK => ?_) AllTo.nil)
      go_simp
      refine (KA.out _).mono ?_
      rintro en7 w7 ⟨⟨ar7, bb7, a7, n7, c7, i7, j7, k7, rfl, hl7, hf7, hn7⟩, hb7⟩
      have hn7 : ∀ k, (Value.slice ar7 n n).ownBlock = some k → wo.heap.size ≤ k := fun k hk => Nat.le_trans hz.size (hn7 k hk)
      have hlk7 : ∀ k, (Value.slice ar7 n n).ownBlock = some k → k < w7.heap.size := fun k hk => hl7.lt9 k hk
      have hz := below_trans hz hb7
      try go_wp2_with fail
      refine hK.out _ _ (fun _ => ?_) (fun hHeld => ?_)
      · (try dsimp only); refine ⟨?_, ?_, ?_⟩ <;> (first | exact RY.out 0 _ rfl _ (by assumption) | exact RY.out 3 _ rfl _ (by assumption) | exact HCB.out _ (by assumption))
      replace hHeld := hHeld (by decide)
      clear hK K
      try simp only [Act.put, List.getElem_toArray, List.getElem_cons_zero, List.getElem_cons_succ, List.setIfInBounds_toArray, List.set_cons_zero, List.set_cons_succ]
      refine to_ready (rs := [10]) (by kernel_rfl) (by simp) (AllTo.cons (o := _) rfl (fun K hK => ?_) AllTo.nil)
      go_simp
      obtain ⟨w8, hw8⟩ : ∃ w', w' = w7.alloc (Obj.cells #[Value.slice ar7 n n, Value.int .i64 0, Value.bool bb7, Value.slice a7 n7 c7, Value.slice i7 j7 k7] 45) := ⟨_, rfl⟩
      have hb8 : Below w7.heap.size w7 w8 := by rw [hw8]; exact (Below.refl _ _).alloc (Nat.le_refl _) _
      have hr8 : w8.heap[w7.heap.size]? = some (.cells #[Value.slice ar7 n n, Value.int .i64 0, Value.bool bb7, Value.slice a7 n7 c7, Value.slice i7 j7 k7] 45 (0, 0)) := by rw [hw8]; exact heap_alloc_new w7 _
      rw [← hw8]
      clear hw8
      have hz := below_trans hz hb8
      have hl8 := rkV.belowL hl7 hb8
      have hf8 := rkV.belowF hf7 hb8
      refine hK.out _ _ (fun _ => ?_) (fun hHeld => ?_)
      · (try dsimp only); refine ⟨?_, ?_, ?_⟩ <;> (first | exact RY.out 0 _ rfl _ (by assumption) | exact RY.out 3 _ rfl _ (by assumption) | exact HCB.out _ (by assumption))
      replace hHeld := hHeld (by decide)
      clear hK K
      try simp only [Act.put, List.getElem_toArray, List.getElem_cons_zero, List.getElem_cons_succ, List.setIfInBounds_toArray, List.set_cons_zero, List.set_cons_succ]
      refine to_ready (rs := [11]) (by kernel_rfl) (by simp) (AllTo.cons (o := _) rfl (fun K hK => ?_) AllTo.nil)
      rw [if_pos (by kernel_rfl)]
      have HO8 := hO.out.below hz
      have hlt8 := hO.out.lt
      refine oper_push_row (K := rkV) _ _ rfl base (Value.slice oa (rn + i) oc) (rs ++ bndL n l bs i) rfl HO8 w7.heap.size 1 ar7 n n bb7 a7 i7 n7 c7 j7 k7 (bndR n l bs i) rfl hr8 (by rw [show (bndR n l bs i).1 = unitQ n v from HBR.out.1]; exact hl8) (by rw [show (bndR n l bs i).2.2 = bq from HBR.out.2]; exact hf8) (fun k hk => ⟨fun e => by have h1 := hn7 k hk; have h2 := (hlt8 k e).2; omega, Nat.lt_of_lt_of_le (hlk7 k hk) hb8.size, by have h1 := hn7 k hk; have h2 := hsz.out; have h3 := HBS.out; omega⟩) (by rw [List.length_append, bndL_len]; have := HRN.out; omega) (by have h1 := hz.size; have h2 := hsz.out; have h3 := HBS.out; omega) ?_
      intro v9 w9 hown9 hg9 hbel9 hat9
      rw [List.append_assoc, bndL_succ] at hown9
      have HX9 := (hg9.block _ (Nat.lt_of_lt_of_le (lt_of_block hG.out) hz.size) (fun e => by have h1 := hob.out _ e.symm; have h2 := HXB.out; omega)).trans ((hz.block _ (lt_of_block hG.out)).trans hG.out)
      have HR9 := (hg9.block _ (Nat.lt_of_lt_of_le (lt_of_block hR.out) hz.size) (fun e => by have h1 := hob.out _ e.symm; have h2 := HXB.out; omega)).trans ((hz.block _ (lt_of_block hR.out)).trans hR.out)
      have HW9 : Below w.heap.size w w9 := (below_trans hZ.out hz).grown hg9 (Nat.le_trans hsz.out hz.size) (fun k hk => by have := hob.out k hk; omega)
      have HS9 := Nat.le_trans hsz.out (Nat.le_trans hz.size hg9.size)
      obtain ⟨na, nc, hv9⟩ := hown9.form
      rw [List.length_append, bndL_len, HRN.out, ← Nat.add_assoc] at hv9
      subst hv9
      have HOB9 : ∀ k, (Value.slice na (rn + i + 1) nc).ownBlock = some k → w.heap.size + 2 ≤ k := fun k hk => by
        rcases hat9 with e4 | e4
        · rw [e4] at hk; exact hob.out k hk
        · rw [e4] at hk
          have h1 := Option.some.inj hk
          have h2 := Nat.le_trans hsz2.out hz.size
          omega
      have HS29 := Nat.le_trans hsz2.out (Nat.le_trans hz.size hg9.size)
      refine hK.out _ _ (fun _ => ?_) (fun hHeld => ?_)
      · (try dsimp only); refine ⟨?_, ?_, ?_⟩ <;> (first | exact cells_later HX9 0 _ rfl _ (Below.refl _ _) | exact cells_later HX9 3 _ rfl _ (Below.refl _ _) | exact HCBW.out _ HW9)
      replace hHeld := hHeld (by decide)
      clear hK K
      try simp only [Act.put, List.getElem_toArray, List.getElem_cons_zero, List.getElem_cons_succ, List.setIfInBounds_toArray, List.set_cons_zero, List.set_cons_succ]
      refine to_take (i := 12) (oi := _) (v := ?_) rfl (by kernel_rfl) (by kernel_rfl) (by kernel_rfl) (fun _ _ _ h => h) (by kernel_rfl) (by decide) (Or.inl ⟨by kernel_rfl, ?_⟩) (by assumption) ?_
      rotate_left
      · intro w hSw
        (try dsimp only at hSw)
        go_simp
        try with_reducible rfl
      try simp only [Act.put, List.getElem_toArray, List.getElem_cons_zero, List.getElem_cons_succ, List.setIfInBounds_toArray, List.set_cons_zero, List.set_cons_succ]
      refine to_ready (rs := [13]) (by kernel_rfl) (by simp) (AllTo.cons (o := _) rfl (fun K hK => ?_) AllTo.nil)
      have g3 := cells_later HX9 3 _ rfl _ (Below.refl _ _)
      have g4 := frozen_of_row _ _ 3 _ _ HX9
      go_simp
      refine hK.out _ _ (fun h => absurd rfl h) (fun _ => ?_)
      clear hK K
      try simp only [Act.put, List.getElem_toArray, List.getElem_cons_zero, List.getElem_cons_succ, List.setIfInBounds_toArray, List.set_cons_zero, List.set_cons_succ]
      refine to_done (by kernel_rfl) ?_ _
      have HON := set3_only w9 XB (Value.slice na (rn + i + 1) nc)
      have HG10 := Lib.hid (set3_row HX9 (v := Value.slice na (rn + i + 1) nc))
      have HO10 := Lib.hid (hown9.otherT blk_rkV HX9 (by decide) (by decide) prog_cells HON)
      have HR10 := Lib.hid ((HON.block _ (fun e => HRX.out e)).trans HR9)
      have HZ10 := Lib.hid (below_only HW9 HON (Nat.le_of_eq HXB.out))
      have HS10 : Hid (w.heap.size ≤ (w9.setCell ⟨XB, 3, none⟩ (Value.slice na (rn + i + 1) nc)).heap.size) := Lib.hid (by rw [HON.size]; exact HS9)
      have HS20 : Hid (w.heap.size + 2 ≤ (w9.setCell ⟨XB, 3, none⟩ (Value.slice na (rn + i + 1) nc)).heap.size) := Lib.hid (by rw [HON.size]; exact HS29)
      have HOB10 := Lib.hid HOB9
      clear HON HX9 HW9 HS9 HR9 HOB9 hown9
      go_wp2_with fail
      go_roundw
      case rel => exact ⟨i + 1, _, _, by omega, by go_num, HG10, HO10, HR10, HZ10, HS10, HS20, HOB10⟩
      case measure => simp [intOf]; omega
    · have t0 : decide ((i : Int) < (m : Int)) = false := by simp; omega
      obtain rfl : i = m := by omega
      have hR9 : wo.heap[XB + 1]? = some (.cells #[Value.int .i64 0, Value.slice none 0 0, Value.slice none 0 0, Value.slice none 0 0] 26 (0, 0)) := by rw [← HXB.out]; exact hR.out
      have g0 := cells_later hG.out 0 _ rfl _ (Below.refl _ _)
      have g1 := cells_later hG.out 1 _ rfl _ (Below.refl _ _)
      have g2 := cells_later hG.out 2 _ rfl _ (Below.refl _ _)
      have g3 := cells_later hG.out 3 _ rfl _ (Below.refl _ _)
      go_wp2_with ((with_reducible refine at_store ?_); refine wpList_store_var rfl _ _ _ rfl (XB + 1) rfl _ rfl _ _ hR9 info_prog9 rfl prog_one ?_; intro w5 h5 hon5; refine halt ?_)
      refine go_on ?_
      have HO5 := hO.out.otherT blk_rkV hR9 (by decide) (by decide) prog_cells hon5
      go_wp2_with fail
      exact bodyPost_ret (results_cell_row rfl _ _ (XB + 1) _ _ _ _ rfl h5 Tryz.underlying26 rfl info_prog9) rfl ⟨⟨_, _, rfl, HO5⟩, below_only hZ.out hon5 (by have := HXB.out; omega)⟩
end Go.Proofs.YtafenoohjcpjgaaGreat

/- Fixed: some variables are exactly their bits. -/
namespace Go.Proofs.YtafenoohjcpjgaaGreat
open Go.RowKit
attribute [local go_sem ↓] Go.wp_at_zero Go.wp_at_succ

/-- A program with some variables fixed. -/
def fixP (P : Pm) (l bs : List Int) : Pm := { P with rows := P.rows ++ bndL P.vars.toNat l bs l.length }
set_option maxRecDepth 100000 in
set_option maxHeartbeats 8000000 in
set_option linter.unusedSimpArgs false in
theorem pfixd_w {N m vc bc : Nat} {w : World} {v : Value} {P : Pm} {va ba : Option Addr} {l bs : List Int} (h : ProgF N w v P) (hrb : rightB2 P = true) (hN : N ≤ 500) (hv1 : P.vars ≤ 160) (hr1 : P.rows.length ≤ 200) (hl : IntsF w va l) (hbs : IntsF w ba bs) (hm : m = l.length) (hlb : l.length = bs.length) (hm9 : m ≤ 160) (hok : okV P.vars l = true) (hbit : bs.any badB = false) :
    Calls Tryz.prog 10 #[v, .slice va m vc, .slice ba m bc] w fun e w' => (∃ r, e = .returned (.tuple #[r, .int .i64 0]) ∧ ProgN rkV w' w.heap.size r (fixP P l bs)) ∧ Below w.heap.size w w' := by
  have HRB := Lib.hid hrb
  have HP := Lib.hid h
  have KFX := Lib.hid (fun w' (hb : Below w.heap.size w w') => pfixed_w (h.below hb) hrb hv1 (by omega))
  have KR := Lib.hid (fun w' (hb : Below w.heap.size w w') => pright_w (h.below hb) ⟨hv1, by omega, by have := right_goal hrb; omega, by have := right_goal hrb; omega⟩)
  rw [right_0 hrb] at KR
  have HS := Lib.hid h.small
  have HN : Hid (N ≤ 500) := Lib.hid hN
  have HI := Lib.hid hl
  have HIB := Lib.hid hbs
  have HM : Hid (m = l.length ∧ l.length = bs.length) := Lib.hid ⟨hm, hlb⟩
  have HOKV : Hid (∀ (i : Nat) (v : Int), l[i]? = some v → 0 ≤ v ∧ v < P.vars) := Lib.hid (fun i v hv => okV_at hok hv)
  have HOKB := Lib.hid hok
  have HBIT := Lib.hid hbit
  obtain ⟨fa, fc, ga, gc, ra, rc, rfl, -, -, hB, hG, hR⟩ := h
  have HBO := Lib.hid hB
  have HR := Lib.hid hR
  obtain ⟨z, hz⟩ : ∃ z, z = P.vars := ⟨_, rfl⟩
  obtain ⟨fn, hfn⟩ : ∃ n, n = P.free.length := ⟨_, rfl⟩
  obtain ⟨gn, hgn⟩ : ∃ n, n = P.goal.length := ⟨_, rfl⟩
  obtain ⟨rn, hrn⟩ : ∃ n, n = P.rows.length := ⟨_, rfl⟩
  rw [← hz] at HP KR ⊢
  rw [← hfn] at HP KR ⊢
  rw [← hgn] at HP hG KR ⊢
  rw [← hrn] at HP KR ⊢
  simp only [← hz, ← hfn, ← hgn, ← hrn] at KFX
  have HG := Lib.hid hG
  have HEQ := Lib.hid (And.intro hz (And.intro hfn (And.intro hgn hrn)))
  have HZF : Hid (z = (gn : Int) ∧ fn = gn ∧ 0 < gn ∧ gn ≤ 160 ∧ rn ≤ 200) := Lib.hid (by have := right_goal hrb; omega)
  obtain ⟨hzg, hfg, hg0, hg160, hr200⟩ := HZF.out
  clear hl hbs hm hlb hok hbit hN hB hR hG hz hfn hgn hrn hrb hv1 hr1
  subst hfg
  subst hzg
  obtain ⟨w1, hw1⟩ : ∃ w1, w1 = (w.alloc (Obj.cells #[Value.int .i64 (fn : Int), Value.slice fa fn fc, Value.slice ga fn gc, Value.slice ra rn rc] 26)).alloc (Obj.cells #[Value.int .i64 0, Value.slice none 0 0, Value.slice none 0 0, Value.slice none 0 0] 26) := ⟨_, rfl⟩
  have HB1 : Hid (Below w.heap.size w w1) := Lib.hid (by rw [hw1]; exact ((Below.refl _ _).alloc (Nat.le_refl _) _).alloc (by simp) _)
  have HX1 : Hid (w1.heap[w.heap.size]? = some (.cells #[Value.int .i64 (fn : Int), Value.slice fa fn fc, Value.slice ga fn gc, Value.slice ra rn rc] 26 (0, 0))) := Lib.hid (by rw [hw1]; exact heap_alloc2_old w _ _)
  have HO1 : Hid (w1.heap[w.heap.size + 1]? = some (.cells #[Value.int .i64 0, Value.slice none 0 0, Value.slice none 0 0, Value.slice none 0 0] 26 (0, 0))) := Lib.hid (by rw [hw1]; exact heap_alloc2_new w _ _)
  have HW1 := Lib.hid hw1.symm
  clear hw1
  have RX := Lib.hid (cells_later HX1.out)
  have hb1 := Below.refl w1.heap.size w1
  have x0 := RX.out 0 _ rfl _ hb1
  have x1 := RX.out 1 _ rfl _ hb1
  have x2 := RX.out 2 _ rfl _ hb1
  have x3 := RX.out 3 _ rfl _ hb1
  have HOKN : Hid (okV ((fn : Nat) : Int) l = true) := Lib.hid (by rw [HEQ.out.1]; exact HOKB.out)
  have HOKI : Hid (∀ (i : Nat) (v : Int), l[i]? = some v → 0 ≤ v ∧ v < (fn : Int)) := Lib.hid (fun i v hv => by rw [HEQ.out.1]; exact HOKV.out i v hv)
  have tnn : ((m : Int) != (m : Int)) = false := by simp
  have t400 : decide ((400 : Int) < (rn : Int) + (m : Int)) = false := by simp; omega
  have KD := Lib.hid (fun w' (hb : Below w.heap.size w w') => distinct_w (w := w') (n := fn) (fa := fa) (ga := ga) (ra := ra) (fn := fn) (fc := fc) (gn := fn) (gc := gc) (rn := rn) (rc := rc) (c := vc) (HI.out.below hb) HM.out.1 (by omega) (by omega))
  rw [HOKN.out] at KD
  have KA := Lib.hid (fun w' (hb : Below w.heap.size w w') => anyfixed_w (w := w') (c := bc) (HIB.out.below hb) (HM.out.1.trans HM.out.2) (by omega))
  rw [HBIT.out] at KA
  go_enter Tryz.func10, Tryz.ntmps10
  go_wp2_with fail
  rw [HW1.out]
  refine (KR.out _ HB1.out).mono ?_
  rintro en2 w2 ⟨rfl, hb2⟩
  have HZ2 := Lib.hid hb2
  have x0 := RX.out 0 _ rfl _ hb2
  have x1 := RX.out 1 _ rfl _ hb2
  have x2 := RX.out 2 _ rfl _ hb2
  have x3 := RX.out 3 _ rfl _ hb2
  clear hb2
  go_wp2_with fail
  refine (KD.out _ (below_trans HB1.out HZ2.out)).mono ?_
  rintro en4 w4 ⟨rfl, hb4⟩
  have HZ4 := Lib.hid (below_trans HZ2.out hb4)
  clear hb4 x0 x1 x2 x3
  go_wp2_with fail
  refine (KA.out _ (below_trans HB1.out HZ4.out)).mono ?_
  rintro en5 w5 ⟨rfl, hb5⟩
  have HZ5 := Lib.hid (below_trans HZ4.out hb5)
  have x0 := RX.out 0 _ rfl _ HZ5.out
  have x1 := RX.out 1 _ rfl _ HZ5.out
  have x2 := RX.out 2 _ rfl _ HZ5.out
  have x3 := RX.out 3 _ rfl _ HZ5.out
  clear hb5
  go_wp2_with fail
  refine (KFX.out _ (below_trans HB1.out HZ5.out)).mono ?_
  rintro en3 w3 ⟨⟨r3, rfl, hn3⟩, hb3⟩
  obtain ⟨fa', fc', ga', gc', oa, oc, mid, hq3, hBF, hGL, hRO, hm1, hm2, hm3, hm4⟩ := hn3
  rw [← HEQ.out.1, ← HEQ.out.2.1, ← HEQ.out.2.2.1, ← HEQ.out.2.2.2] at hq3
  subst hq3
  rw [← HEQ.out.2.2.1] at hGL hm3
  rw [← HEQ.out.2.2.2] at hRO
  have HZ3 := Lib.hid (below_trans HZ5.out hb3)
  have HBF := Lib.hid hBF
  have HGL := Lib.hid hGL
  have HRO := Lib.hid hRO
  have HM1 : Hid (w1.heap.size ≤ mid) := Lib.hid (Nat.le_trans HZ5.out.size hm1)
  have HM2 := Lib.hid hm2
  have HM3 := Lib.hid hm3
  have HM4 := Lib.hid hm4
  have KB := Lib.hid (bound_w (fa := fa') (ga := ga') (fn := fn) (fc := fc') (gn := fn) (gc := gc') (vc := vc) (bc := bc) hRO hm4 (HI.out.below (below_trans HB1.out HZ3.out)) (HIB.out.below (below_trans HB1.out HZ3.out)) HM.out.1 HM.out.2 HOKI.out (by omega) (by omega) (by omega))
  clear hBF hGL hRO hm1 hm2 hm3 hm4 hb3 x0 x1 x2 x3 KFX KR KD KA
  go_wp2_with fail
  refine KB.out.mono ?_
  rintro en6 w6 ⟨⟨ob, oc6, rfl, hl6⟩, hb6⟩
  have HL6 := Lib.hid hl6
  have HB6 := Lib.hid hb6
  have HZ6 := Lib.hid (below_trans HZ3.out hb6)
  have HR9 : w6.heap[w.heap.size + 1]? = some (.cells #[Value.int .i64 0, Value.slice none 0 0, Value.slice none 0 0, Value.slice none 0 0] 26 (0, 0)) := (HZ6.out.block _ (lt_of_block HO1.out)).trans HO1.out
  have hlow : w.heap.size + 1 < mid := Nat.lt_of_lt_of_le (lt_of_block HO1.out) HM1.out
  clear hl6 hb6 KB
  go_wp2_with ((with_reducible refine at_store ?_); refine wpList_store_var rfl _ _ _ rfl (w.heap.size + 1) rfl _ rfl _ _ HR9 info_prog9 rfl prog_one ?_; intro w7 h7 hon7; refine halt ?_)
  refine go_on ?_
  have HO7 := HL6.out.other HR9 prog_cells hon7 hlow
  have HF7 := (HBF.out.below HB6.out).other HR9 prog_nobool hon7
  have HL7 := rkV.otherL (rkV.belowL HGL.out HB6.out) HR9 prog_cells hon7 (fun g hg e => by obtain ⟨cs, h1⟩ := rkV_blk (rkV.belowL HGL.out HB6.out) g hg; rw [e, HR9] at h1; simp at h1)
  go_wp2_with fail
  refine bodyPost_ret (results_row_tmp rfl _ _ (w.heap.size + 1) _ _ _ _ rfl h7 Tryz.underlying26 rfl info_prog9) rfl ⟨⟨_, rfl, fa', fc', ga', gc', ob, oc6, mid, ?_, HF7, ?_, ?_, Nat.le_trans (by omega) (Nat.le_of_lt hlow), HM2.out, ?_, by rw [hon7.size]; exact Nat.le_trans HM4.out HB6.out.size⟩, ?_⟩
  · show _ = Value.agg #[.int .i64 P.vars, .slice fa' P.free.length fc', .slice ga' P.goal.length gc', .slice ob (P.rows ++ bndL P.vars.toNat l bs l.length).length oc6]
    rw [List.length_append, bndL_len, ← HEQ.out.1, ← HEQ.out.2.1, ← HEQ.out.2.2.1, ← HEQ.out.2.2.2, ← HM.out.1]
  · show rkV.L _ (.slice ga' P.goal.length gc') P.goal
    rw [← HEQ.out.2.2.1]
    exact HL7
  · show LRo rkV _ mid (.slice ob (P.rows ++ bndL P.vars.toNat l bs l.length).length oc6) (P.rows ++ bndL P.vars.toNat l bs l.length)
    rw [List.length_append, bndL_len, ← HEQ.out.1, ← HEQ.out.2.2.2, ← HM.out.1, Int.toNat_natCast]
    exact HO7
  · show ∀ g, (Value.slice ga' P.goal.length gc').ownBlock = some g → g < mid
    rw [← HEQ.out.2.2.1]
    exact HM3.out
  · exact below_only (below_trans HB1.out HZ6.out) hon7 (Nat.le_succ _)
end Go.Proofs.YtafenoohjcpjgaaGreat
