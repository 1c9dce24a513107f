/- Several texts in one: Y2, Y3, Y4. -/
import Derived.Test.YtafenoohjcpjgaaGreatZ22
import Derived.Deep.RegionHeld3
import Derived.Deep.DrawnRows
/- Equal lists: sameList. -/
namespace Go.Proofs.YtafenoohjcpjgaaGreat
open Go.RowKit
attribute [local go_sem ↓] Go.wp_at_zero Go.wp_at_succ

theorem ListV.form {w : World} {v : Value} {qs : List Rat} (h : ListV w v qs) : ∃ a, v = .slice a qs.length qs.length := by
  obtain ⟨B, hv, -⟩ := h
  exact ⟨_, hv⟩
theorem ListV.at {w : World} {a : Option Addr} {n c : Nat} {qs : List Rat} (h : ListV w (.slice a n c) qs) {i : Nat} (hi : i < n) :
    ∃ B off b a1 n1 c1 a2 n2 c2, a = some ⟨B, off, none⟩ ∧ (∀ w', Below w.heap.size w w' → w'.cell? ⟨B, off + i * 3, none⟩ = some (.bool b) ∧ w'.cell? ⟨B, off + i * 3 + 1, none⟩ = some (.slice a1 n1 c1) ∧ w'.cell? ⟨B, off + i * 3 + 2, none⟩ = some (.slice a2 n2 c2)) ∧ FracV w (.agg #[.bool b, .slice a1 n1 c1, .slice a2 n2 c2]) (nthQ qs i) := by
  obtain ⟨B, hv, h⟩ := h
  simp only [Value.slice.injEq] at hv
  obtain ⟨rfl, rfl, rfl⟩ := hv
  obtain ⟨f, hr, he⟩ := h
  obtain ⟨a1, n1, c1, b, a2, n2, c2, e, hq⟩ := he i hi
  refine ⟨B, 0, b, a1, n1, c1, a2, n2, c2, rfl, fun w' hb => ?_, hq hi⟩
  obtain ⟨k0, k1, k2⟩ := hr.cell hi
  rw [e] at k0 k1 k2
  simp only [Nat.zero_add]
  exact ⟨cell_below hb k0, cell_below hb k1, cell_below hb k2⟩
theorem frac_right {w : World} {v : Value} {q : Rat} (h : FracV w v q) (hl : lenQ q ≤ 4096) : Calls Tryz.prog 67 #[v] w fun e w' => e = .returned (.bool true) ∧ Below w.heap.size w w' := by
  obtain ⟨u, d, rfl, hu, hd⟩ := h
  rw [← right_digs hl]
  exact right_w ⟨u, d, rfl, hu, hd⟩

set_option maxRecDepth 100000 in
set_option maxHeartbeats 4000000 in
theorem same_list {N : Nat} {w : World} {v v' : Value} {qs : List Rat} (ha : ListV w v qs) (hb : ListF N w v' qs) (hN : N ≤ 2048) (hn : qs.length ≤ 1000) (hl : ∀ i, i < qs.length → lenQ (nthQ qs i) ≤ 4096) :
    Calls Tryz.prog 35 #[v, v'] w fun e w' => e = .returned (.bool true) ∧ Below w.heap.size w w' := by
  obtain ⟨a, rfl⟩ := ha.form
  obtain ⟨a', c', rfl, -⟩ := id hb
  have HA := Lib.hid ha
  have HB := Lib.hid hb
  have HL := Lib.hid hl
  obtain ⟨n, hnn⟩ : ∃ n, n = qs.length := ⟨_, rfl⟩
  rw [← hnn] at HA HB HL hn ⊢
  have tn : ((n : Int) != (n : Int)) = false := by simp
  clear ha hb hl hnn
  go_enter Tryz.func35, Tryz.ntmps35
  go_wp2_with fail
  go_loopw [14] (fun iv wr => ∃ i : Nat, i ≤ n ∧ iv = .int .i64 i ∧ Hid (Below w.heap.size w wr)) (fun iv _ => n - (intOf iv).toNat)
  case atStart => exact ⟨0, Nat.zero_le _, rfl, Lib.hid (Below.refl _ _)⟩
  case round =>
    obtain ⟨i, hi, rfl, hZ⟩ := hrel
    obtain ⟨wo, rfl⟩ : ∃ wo : World, wo = wr := ⟨_, rfl⟩
    by_cases hin : i < n
    · have t0 : decide ((i : Int) < (n : Int)) = true := by simp; omega
      obtain ⟨B, off, b, a1, n1, c1, a2, n2, c2, hA, hcA, hfA⟩ := HA.out.at hin
      subst hA
      obtain ⟨q', B', off', b', a1', n1', c1', a2', n2', c2', hq', hB', hcB, hfB⟩ := HB.out.at hin
      subst hB'
      obtain ⟨k0, k1, k2⟩ := hcA wo hZ.out
      obtain ⟨Q, hQ⟩ : ∃ Q, Q = nthQ qs i := ⟨_, rfl⟩
      have e9 : q' = Q := by rw [hQ]; exact (nthQ_of hq').symm
      subst e9
      rw [← hQ] at hfA
      have HLQ : Hid (lenQ q' ≤ 4096) := Lib.hid (by rw [hQ]; exact HL.out i hin)
      have HFA := Lib.hid hfA
      have HFB := Lib.hid hfB
      have HCB := Lib.hid hcB
      clear hcA hfA hfB hcB hQ hq'
      go_wp2_with ((with_reducible refine at_store ?_); refine wpList_store_var rfl _ _ _ rfl wo.heap.size rfl _ rfl _ _ (heap_alloc_new _ _) ifrac rfl frac_one ?_; intro w4 h4 hon4; refine halt ?_)
      have hb4 : Below wo.heap.size wo w4 := below_only ((Below.refl _ _).alloc (Nat.le_refl _) _) hon4 (Nat.le_refl _)
      have HZ4 := Lib.hid (below_trans hZ.out hb4)
      have RY := Lib.hid (cells_later h4)
      have hb5 := Below.refl w4.heap.size w4
      have y0 := RY.out 0 _ rfl _ hb5
      have y1 := RY.out 1 _ rfl _ hb5
      have y2 := RY.out 2 _ rfl _ hb5
      obtain ⟨m0, m1, m2⟩ := HCB.out w4 HZ4.out
      have HCW := Lib.hid (fun w' (hb : Below w4.heap.size w4 w') => HCB.out w' (below_trans HZ4.out hb))
      clear h4 hon4 hb4 k0 k1 k2
      refine go_on ?_
      have KC := Lib.hid (fun w' (hb : Below w4.heap.size w4 w') => rcmp_s (n := 4096) (m := 4096) ((HFA.out.below (below_trans HZ4.out hb)).sz HLQ.out HLQ.out) (show SzF 4096 w' (.agg #[.bool b', .slice a1' n1' c1', .slice a2' n2' c2']) q' from by
        obtain ⟨b9, l9, m9, h1, h2, h3⟩ := (HFB.out.below (below_trans HZ4.out hb)).sz
        exact ⟨b9, l9, m9, h1, h2, by omega⟩) (by omega) (by omega))
      rw [cmpQ_self] at KC
      have KR := Lib.hid (fun w' (hb : Below w4.heap.size w4 w') => frac_right (HFA.out.below (below_trans HZ4.out hb)) HLQ.out)
      go_wp2_with fail
      have hz0 : Below w4.heap.size w4 w4.drew := below_drewN hb5 1
      go_region_held3 (fun w' => w'.cell? ⟨wo.heap.size, 0, none⟩ = some (.bool b) ∧ w'.cell? ⟨wo.heap.size, 1, none⟩ = some (.slice a1 n1 c1) ∧ w'.cell? ⟨wo.heap.size, 2, none⟩ = some (.slice a2 n2 c2) ∧ w'.cell? ⟨B', off' + i * 3, none⟩ = some (.bool b') ∧ w'.cell? ⟨B', off' + i * 3 + 1, none⟩ = some (.slice a1' n1' c1') ∧ w'.cell? ⟨B', off' + i * 3 + 2, none⟩ = some (.slice a2' n2' c2'))
        (((try dsimp only); refine ⟨?_, ?_, ?_, ?_, ?_, ?_⟩ <;> (first | exact RY.out 0 _ rfl _ (by assumption) | exact RY.out 1 _ rfl _ (by assumption) | exact RY.out 2 _ rfl _ (by assumption) | exact (HCW.out _ (by assumption)).1 | exact (HCW.out _ (by assumption)).2.1 | exact (HCW.out _ (by assumption)).2.2)))
        (first | (go_at_call 66; refine (KC.out _ hz0).mono ?_; rintro en6 w6 ⟨rfl, hb6⟩; have hz6 := below_trans hz0 hb6) | (go_at_call 67; refine (KR.out _ hz6).mono ?_; rintro en7 w7 ⟨rfl, hb7⟩; have hz7 := below_trans hz6 hb7))
      all_goals
        have HZ7 := Lib.hid (below_trans HZ4.out hz7)
        clear hz0 hz6 hz7
        go_wp2_with fail
        go_roundw
      all_goals first
        | exact ⟨i + 1, by omega, by go_num, HZ7⟩
        | (simp [intOf]; omega)
    · have t0 : decide ((i : Int) < (n : Int)) = false := by simp; omega
      go_wp2_with fail
      go_ret
      exact ⟨rfl, hZ.out⟩
end Go.Proofs.YtafenoohjcpjgaaGreat

/- Clean and negated of the reference. -/
namespace Go.Proofs.YtafenoohjcpjgaaGreat
open Go.RowKit
attribute [local go_sem ↓] Go.wp_at_zero Go.wp_at_succ

theorem rfix_f {n : Nat} {w : World} {x : Value} {P : Rat} (hx : FewF n w x P) (hn : n ≤ 1000) : Calls Tryz.prog 59 #[x] w (RTell w P) := by
  obtain ⟨b, l, m, h1, rfl, hl1, hm1⟩ := hx
  exact rfix_w h1 (by omega)
theorem rneg_v {w : World} {x : Value} {P : Rat} (hx : FracV w x P) (hl : lenQ P ≤ 4096) : Calls Tryz.prog 26 #[x] w (RTell w (-P)) := by
  obtain ⟨b, l, m, h1, rfl, hl1⟩ := hx.sz hl hl
  exact rnegf_w h1 hl1
theorem digs_of_len {q : Rat} {n : Nat} (h : lenQ q ≤ n) : (digs q.num.natAbs).length ≤ n ∧ (digs q.den).length ≤ n := by
  have h1 : lenQ q = (digs q.num.natAbs).length + (digs q.den).length := rfl
  omega
theorem len_negq (q : Rat) : lenQ (-q) = lenQ q := by
  unfold lenQ
  rw [Rat.neg_num, Int.natAbs_neg, Rat.neg_den]
theorem fv_few9 {N : Nat} {w : World} {v : Value} {q : Rat} (h : FracV w v q) (h1 : lenQ q ≤ N) (hN : N ≤ 4096) : FewF N w v q := by
  obtain ⟨u, d, rfl, hu, hd⟩ := h
  exact ⟨_, _, _, ⟨_, _, rfl, hu, hd⟩, (fix_digs (by omega)).symm, (digs_of_len h1).1, (digs_of_len h1).2⟩
set_option maxRecDepth 100000 in
set_option maxHeartbeats 4000000 in
theorem clean_w {N : Nat} {w : World} {v : Value} {qs : List Rat} (hx : ListF N w v qs) (hN : N ≤ 500) (hn : qs.length ≤ 1000) :
    Calls Tryz.prog 58 #[v] w fun e w' => (∃ r, e = .returned r ∧ LFs (2 * N + 1) w' w.heap.size r (qs)) ∧ Below w.heap.size w w' := by
  obtain ⟨a, c, rfl, -⟩ := id hx
  have HX := Lib.hid hx
  obtain ⟨n, hnn⟩ : ∃ n, n = qs.length := ⟨_, rfl⟩
  obtain ⟨ps, hps⟩ : ∃ ps, ps = qs := ⟨_, rfl⟩
  have HPL : Hid (ps.length = n) := Lib.hid (by rw [hps, hnn])
  have HPE : Hid (∀ (i : Nat) (q : Rat), qs[i]? = some q → ps[i]? = some (q)) := Lib.hid (fun i q h => by rw [hps]; exact h)
  rw [← hnn] at HX hn ⊢
  rw [← hps]
  clear hx hps hnn
  go_enter Tryz.func58, Tryz.ntmps58
  go_wp2_with fail
  go_loopw [3, 8] (fun lv iv wr => ∃ (i : Nat) (oa : Option Addr) (oc : Nat), i ≤ n ∧ iv = .int .i64 i ∧ lv = .slice oa i oc ∧ Hid (LFs (2 * N + 1) wr w.heap.size (.slice oa i oc) (ps.take i)) ∧ Hid (Below w.heap.size w wr)) (fun _ iv _ => n - (intOf iv).toNat)
  case atStart => exact ⟨0, none, 0, Nat.zero_le _, rfl, rfl, Lib.hid (LFs.nil _ _ _), Lib.hid (Below.refl _ _)⟩
  case round =>
    obtain ⟨i, oa, oc, hi, rfl, rfl, hO, hZ⟩ := hrel
    obtain ⟨wo, rfl⟩ : ∃ wo : World, wo = wr := ⟨_, rfl⟩
    by_cases hin : i < n
    · have t0 : decide ((i : Int) < (n : Int)) = true := by simp; omega
      obtain ⟨q, B, off, b, a1, n1, c1, a2, n2, c2, hq, hB, hcB, hfB⟩ := HX.out.at hin
      subst hB
      have HPI := Lib.hid (HPE.out i q hq)
      have HLQ : Hid (lenQ q ≤ 2 * N + 1) := Lib.hid hfB.len
      have HFB := Lib.hid hfB
      obtain ⟨k0, k1, k2⟩ := hcB wo hZ.out
      clear hq hcB hfB
      obtain ⟨p, hp⟩ : ∃ p, p = q := ⟨_, rfl⟩
      rw [← hp] at HPI
      have HPQ := Lib.hid hp
      have HLP : Hid (lenQ p ≤ 2 * N + 1) := Lib.hid (by rw [hp]; exact HLQ.out)
      have HTK : Hid (ps.take i ++ [p] = ps.take (i + 1) ∧ (ps.take i).length = i ∧ (ps.take (i + 1)).length = i + 1) := Lib.hid (by
        have h9 : i < ps.length := by have := HPL.out; omega
        have h8 := HPI.out
        rw [List.getElem?_eq_getElem h9] at h8
        simp only [Option.some.injEq] at h8
        exact ⟨by rw [List.take_succ_eq_append_getElem h9, h8], by rw [List.length_take]; omega, by rw [List.length_take]; omega⟩)
      clear hp
      go_wp2_with ((with_reducible refine at_store ?_); refine wpList_store_var rfl _ _ _ rfl wo.heap.size rfl _ rfl _ _ (heap_alloc_new _ _) ifrac rfl frac_one ?_; intro w4 h4 hon4; refine halt ?_)
      have hb4 : Below wo.heap.size wo w4 := below_only ((Below.refl _ _).alloc (Nat.le_refl _) _) hon4 (Nat.le_refl _)
      have HB4 := Lib.hid hb4
      have HZ4 := Lib.hid (below_trans hZ.out hb4)
      have RY := Lib.hid (cells_later h4)
      have hb5 := Below.refl w4.heap.size w4
      have y0 := RY.out 0 _ rfl _ hb5
      have y1 := RY.out 1 _ rfl _ hb5
      have y2 := RY.out 2 _ rfl _ hb5
      have KF := Lib.hid (rfix_f (HFB.out.below HZ4.out) (by omega))
      clear h4 hon4 hb4 k0 k1 k2 hb5
      refine go_on ?_
      go_wp2_with fail
      refine KF.out.mono ?_
      rintro en5 w5 ⟨⟨v5, rfl, f5⟩, hb5⟩
      clear y0 y1 y2
      rw [← HPQ.out] at f5
      have HB5 := Lib.hid (below_trans HB4.out hb5)
      obtain ⟨a5, n5, c5, i5, j5, k5, hq5⟩ := frac_form f5
      subst hq5
      have HF5 := Lib.hid (fv_few9 f5 HLP.out (by omega))
      obtain ⟨bq, hbq⟩ : ∃ bq, bq = decide (p.num < 0) := ⟨_, rfl⟩
      rw [← hbq] at HF5
      rw [← hbq]
      clear hbq f5 hb5
      obtain ⟨w6, hw6⟩ : ∃ w6, w6 = w5.alloc (Obj.cells #[Value.bool bq, Value.slice a5 n5 c5, Value.slice i5 j5 k5] 43) := ⟨_, rfl⟩
      have HB6 : Hid (Below w5.heap.size w5 w6) := Lib.hid (by rw [hw6]; exact (Below.refl _ _).alloc (Nat.le_refl _) _)
      have HR6 : Hid (w6.heap[w5.heap.size]? = some (.cells #[Value.bool bq, Value.slice a5 n5 c5, Value.slice i5 j5 k5] 43 (0, 0))) := Lib.hid (by rw [hw6]; exact heap_alloc_new w5 _)
      have HZ6 := Lib.hid (below_trans HB5.out HB6.out)
      have HO6 := Lib.hid (hO.out.below HZ6.out)
      have HF6 := Lib.hid (HF5.out.below HB6.out)
      have hsz6 : Hid (w.heap.size ≤ w6.heap.size) := Lib.hid (by have h1 := hZ.out.size; have h2 := HZ6.out.size; omega)
      go_wp2_with (at_builtin; rw [← hw6]; refine wpList_push_frac rfl _ _ rfl (2 * N + 1) w.heap.size (Value.slice oa i oc) (ps.take i) rfl HO6.out w5.heap.size 1 bq a5 i5 n5 c5 j5 k5 p rfl HR6.out HF6.out (by have := HTK.out.2.1; omega) hsz6.out ?_; intro v7 w7 hown7 hgrow7 hbel7 hat7; refine halt ?_)
      rw [HTK.out.1] at hown7
      have HO7 := Lib.hid hown7
      have HB7 := Lib.hid (hbel7 w (below_trans hZ.out HZ6.out))
      obtain ⟨ga7, gc7, hgv⟩ := hown7.form
      rw [HTK.out.2.2] at hgv
      subst hgv
      clear hown7 hgrow7 hbel7 hat7 hw6
      refine go_on ?_
      go_wp2_with fail
      go_roundw
      case rel => exact ⟨i + 1, _, _, by omega, by go_num, by go_num, HO7, HB7⟩
      case measure => simp [intOf]; omega
    · have t0 : decide ((i : Int) < (n : Int)) = false := by simp; omega
      have HE : Hid (LFs (2 * N + 1) wo w.heap.size (.slice oa i oc) ps) := Lib.hid (by
        have h9 := hO.out
        rw [List.take_of_length_le (by have := HPL.out; omega)] at h9
        exact h9)
      go_wp2_with fail
      go_ret
      exact ⟨⟨_, rfl, HE.out⟩, hZ.out⟩
end Go.Proofs.YtafenoohjcpjgaaGreat

/- Lists of rows of the call's own, appended to. -/
namespace Go.Proofs.YtafenoohjcpjgaaGreat
open Go.RowKit

theorem IsW.grown {w w' : World} {v u : Value} {l : List Nat} (h : IsW w v l) (hv : Clean w u) (hg : w.grownBy w' u.ownBlock) : IsW w' v l := by
  refine h.keep hg.size (fun hl x hx => ?_)
  obtain ⟨a, c, rfl, -⟩ := id h
  have hn : l.length ≠ 0 := by intro e; exact hl (List.eq_nil_of_length_eq_zero e)
  exact hg.block x (h.own_lt hl x hx) (fun e => h.notClean hn hx hv e.symm)
theorem FracV.grown {w w' : World} {v u : Value} {q : Rat} (h : FracV w v q) (hv : Clean w u) (hg : w.grownBy w' u.ownBlock) : FracV w' v q := by
  obtain ⟨x, d, rfl, h1, h2⟩ := h
  exact ⟨x, d, rfl, h1.grown hv hg, h2.grown hv hg⟩
theorem ListV.grown {w w' : World} {v u : Value} {qs : List Rat} (h : ListV w v qs) (hv : Clean w u) (hg : w.grownBy w' u.ownBlock) (hne : ∀ g, v.ownBlock = some g → u.ownBlock ≠ some g) : ListV w' v qs := by
  obtain ⟨B, rfl, f, ⟨c, h1, h2, h3⟩, he⟩ := h
  have hlt : B < w.heap.size := lt_of_block h1
  refine ⟨B, rfl, f, ⟨c, by rw [hg.block B hlt (fun e => hne B rfl e.symm)]; exact h1, h2, h3⟩, fun i hi => ?_⟩
  obtain ⟨a1, n1, c1, b, a2, n2, c2, e, hq⟩ := he i hi
  exact ⟨a1, n1, c1, b, a2, n2, c2, e, fun h => (hq h).grown hv hg⟩
theorem few_grown {N : Nat} {w w' : World} {v u : Value} {q : Rat} (h : FewF N w v q) (hv : Clean w u) (hg : w.grownBy w' u.ownBlock) : FewF N w' v q := by
  obtain ⟨b, l, m, ⟨x, d, rfl, h1, h2⟩, h3, h4, h5⟩ := h
  exact ⟨b, l, m, ⟨x, d, rfl, h1.grown hv hg, h2.grown hv hg⟩, h3, h4, h5⟩

theorem ListV.other {w w' : World} {v : Value} {qs : List Rat} {B : Nat} {cs : Array Value} {t : TypeId} {fr : Nat × Nat} (h : ListV w v qs) (hB : w.heap[B]? = some (.cells cs t fr)) (hcs : ∀ (j k : Nat), cs[j]? ≠ some (U k)) (ho : Only B w w') (hne : ∀ g, v.ownBlock = some g → g ≠ B) : ListV w' v qs := by
  obtain ⟨R, rfl, f, ⟨c, h1, h2, h3⟩, he⟩ := h
  refine ⟨R, rfl, f, ⟨c, by rw [ho.block R (hne R rfl)]; exact h1, h2, h3⟩, fun i hi => ?_⟩
  obtain ⟨a1, n1, c1, b, a2, n2, c2, e, hq⟩ := he i hi
  exact ⟨a1, n1, c1, b, a2, n2, c2, e, fun h => by
    obtain ⟨x, d, h0, h1, h2⟩ := hq h
    exact ⟨x, d, h0, h1.other hB hcs ho, h2.other hB hcs ho⟩⟩
theorem few_other {N : Nat} {w w' : World} {v : Value} {q : Rat} {B : Nat} {cs : Array Value} {t : TypeId} {fr : Nat × Nat} (h : FewF N w v q) (hB : w.heap[B]? = some (.cells cs t fr)) (hcs : ∀ (j k : Nat), cs[j]? ≠ some (U k)) (ho : Only B w w') : FewF N w' v q := by
  obtain ⟨b, l, m, ⟨x, d, rfl, h1, h2⟩, h3, h4, h5⟩ := h
  exact ⟨b, l, m, ⟨x, d, rfl, h1.other hB hcs ho, h2.other hB hcs ho⟩, h3, h4, h5⟩
theorem only_grown {B : Nat} {w w' : World} (ho : Only B w w') : w.grownBy w' (some B) :=
  ⟨ho.os, ho.tape, ho.output, Nat.le_of_eq ho.size.symm, fun k _ hk => ho.block k (fun e => hk (by rw [e]))⟩

/-- What lists and numbers in rows are said to be. -/
structure RowK where
  L : World → Value → List Rat → Prop
  F : World → Value → Rat → Prop
  keepL : ∀ {w w' : World} {v u : Value} {qs : List Rat}, L w v qs → Clean w u → w.grownBy w' u.ownBlock → (∀ g, v.ownBlock = some g → u.ownBlock ≠ some g) → L w' v qs
  keepF : ∀ {w w' : World} {v u : Value} {q : Rat}, F w v q → Clean w u → w.grownBy w' u.ownBlock → F w' v q
  belowL : ∀ {w w' : World} {v : Value} {qs : List Rat}, L w v qs → Below w.heap.size w w' → L w' v qs
  belowF : ∀ {w w' : World} {v : Value} {q : Rat}, F w v q → Below w.heap.size w w' → F w' v q
  otherL : ∀ {w w' : World} {v : Value} {qs : List Rat} {B : Nat} {cs : Array Value} {t : TypeId} {fr : Nat × Nat}, L w v qs → w.heap[B]? = some (.cells cs t fr) → (∀ (j k : Nat), cs[j]? ≠ some (U k)) → Only B w w' → (∀ g, v.ownBlock = some g → g ≠ B) → L w' v qs
  otherF : ∀ {w w' : World} {v : Value} {q : Rat} {B : Nat} {cs : Array Value} {t : TypeId} {fr : Nat × Nat}, F w v q → w.heap[B]? = some (.cells cs t fr) → (∀ (j k : Nat), cs[j]? ≠ some (U k)) → Only B w w' → F w' v q
/-- Right ones. -/
def rkV : RowK where
  L := ListV
  F := FracV
  keepL := fun h hv hg hne => h.grown hv hg hne
  keepF := fun h hv hg => h.grown hv hg
  belowL := fun h hb => h.below hb
  belowF := fun h hb => h.below hb
  otherL := fun h hB hcs ho hne => h.other hB hcs ho hne
  otherF := fun h hB hcs ho => by
    obtain ⟨x, d, h0, h1, h2⟩ := h
    exact ⟨x, d, h0, h1.other hB hcs ho, h2.other hB hcs ho⟩
/-- Whatever ones, of so many words. -/
def rkF (N : Nat) : RowK where
  L := fun w v qs => ∃ base, LFs N w base v qs
  F := FewF N
  keepL := fun h hv hg hne => by
    obtain ⟨base, h⟩ := h
    exact ⟨base, h.grown hg hne (fun _ _ _ _ _ _ _ _ hf => few_grown hf hv hg)⟩
  keepF := fun h hv hg => few_grown h hv hg
  belowL := fun h hb => by
    obtain ⟨base, h⟩ := h
    exact ⟨base, h.below hb⟩
  belowF := fun h hb => h.below hb
  otherL := fun h hB hcs ho hne => by
    obtain ⟨base, h⟩ := h
    exact ⟨base, h.grown (only_grown ho) (fun g hg e => hne g hg (by cases e; rfl)) (fun _ _ _ _ _ _ _ _ hf => few_other hf hB hcs ho)⟩
  otherF := fun h hB hcs ho => few_other h hB hcs ho

/-- A list of rows of the call's own. -/
def LRo (K : RowK) (w : World) (base : Nat) (v : Value) (rs : List (List Rat × Int × Rat)) : Prop :=
  ∃ xs, w.ownsRow base 45 5 v rs.length xs ∧ Clean w v ∧ ∀ (j : Nat) (r : List Rat × Int × Rat), rs[j]? = some r → ∃ a n c b a1 n1 c1 a2 n2 c2, xs[j * 5]? = some (.slice a n c) ∧ xs[j * 5 + 1]? = some (.int .i64 r.2.1) ∧ xs[j * 5 + 2]? = some (.bool b) ∧ xs[j * 5 + 3]? = some (.slice a1 n1 c1) ∧ xs[j * 5 + 4]? = some (.slice a2 n2 c2) ∧
    K.L w (.slice a n c) r.1 ∧ K.F w (.agg #[.bool b, .slice a1 n1 c1, .slice a2 n2 c2]) r.2.2 ∧ (∀ g, (Value.slice a n c).ownBlock = some g → v.ownBlock ≠ some g ∧ g < w.heap.size ∧ base ≤ g)
theorem LRo.nil (K : RowK) (w : World) (base : Nat) : LRo K w base (.slice none 0 0) [] := ⟨[], World.ownsRow_nil w base _ 5, fun _ _ _ _ h => by simp [Value.ownBlock] at h, fun j q h => by simp at h⟩
theorem LRo.lt {K : RowK} {w : World} {base : Nat} {v : Value} {rs : List (List Rat × Int × Rat)} (h : LRo K w base v rs) : ∀ g, v.ownBlock = some g → base ≤ g ∧ g < w.heap.size := by
  obtain ⟨xs, ho, -⟩ := h
  exact fun g hg => World.ownsRow.lt ho g hg
theorem LRo.below {K : RowK} {w w' : World} {base : Nat} {v : Value} {rs : List (List Rat × Int × Rat)} (h : LRo K w base v rs) (hb : Below w.heap.size w w') : LRo K w' base v rs := by
  have hlt := h.lt
  obtain ⟨xs, ho, hc, he⟩ := h
  refine ⟨xs, World.ownsRow.kept (row := none) ho ⟨hb.os, hb.tape, hb.output, hb.size, fun k hk _ => hb.block k hk⟩ (by cases hv : v.ownBlock <;> simp), ?_, fun j r hr => ?_⟩
  · intro g cs e fr hv hh
    rw [hb.block g (hlt g hv).2] at hh
    exact hc g cs e fr hv hh
  · obtain ⟨a, n, c, b, a1, n1, c1, a2, n2, c2, h0, h1, h2, h3, h4, hl, hf, hne⟩ := he j r hr
    exact ⟨a, n, c, b, a1, n1, c1, a2, n2, c2, h0, h1, h2, h3, h4, K.belowL hl hb, K.belowF hf hb, fun g hg => ⟨(hne g hg).1, Nat.lt_of_lt_of_le (hne g hg).2.1 hb.size, (hne g hg).2.2⟩⟩
theorem LRo.form {K : RowK} {w : World} {base : Nat} {v : Value} {rs : List (List Rat × Int × Rat)} (h : LRo K w base v rs) : ∃ a c, v = .slice a rs.length c := by
  obtain ⟨xs, ho, -⟩ := h
  rcases ho.2 with ⟨rfl, h0⟩ | ⟨g, cap, cur, rfl, -⟩
  · exact ⟨none, 0, by rw [h0]⟩
  · exact ⟨_, _, rfl⟩
/-- .. stays where a block below it is stored into that holds no words. -/
theorem LRo.other {K : RowK} {w w' : World} {base : Nat} {v : Value} {rs : List (List Rat × Int × Rat)} {B : Nat} {cs : Array Value} {t : TypeId} {fr : Nat × Nat} (h : LRo K w base v rs) (hB : w.heap[B]? = some (.cells cs t fr)) (hcs : ∀ (j k : Nat), cs[j]? ≠ some (U k)) (ho : Only B w w') (hlow : B < base) : LRo K w' base v rs := by
  have hlt := h.lt
  obtain ⟨xs, hx, hc, he⟩ := h
  refine ⟨xs, World.ownsRow.kept (row := some B) hx (only_grown ho) (by
    cases hv : v.ownBlock with
    | none => simp
    | some g => exact Or.inr (by have := (hlt g hv).1; intro e; cases e; omega)), ?_, fun j r hr => ?_⟩
  · intro g cs' e fr' hv hh
    rw [ho.block g (by have := (hlt g hv).1; omega)] at hh
    exact hc g cs' e fr' hv hh
  · obtain ⟨a, n, c, b, a1, n1, c1, a2, n2, c2, h0, h1, h2, h3, h4, hl, hf, hne⟩ := he j r hr
    exact ⟨a, n, c, b, a1, n1, c1, a2, n2, c2, h0, h1, h2, h3, h4, K.otherL hl hB hcs ho (fun g hg => by have := (hne g hg).2.2; omega), K.otherF hf hB hcs ho, fun g hg => ⟨(hne g hg).1, Nat.lt_of_lt_of_le (hne g hg).2.1 (Nat.le_of_eq ho.size.symm), (hne g hg).2.2⟩⟩
theorem info_row9 : (Tryz.prog.info? 45).map (fun i => (i.zero, i.size, i.bytes)) = some (some (.agg #[Value.slice none 0 0, Value.int .i64 0, Value.bool false, Value.slice none 0 0, Value.slice none 0 0]), 5, 88) := by kernel_rfl

set_option maxHeartbeats 1000000 in
/-- One more, by append. -/
theorem oper_push_row {K : RowK} {w : World} {o : Oper} {a : Act} {C : Act → World → Prop} {Q : Exit → Act → World → Prop} (s x : Operand)
    (ho : o.op = .call { callee := .builtin .append, args := #[s, x], argTypes := #[24, 24] }) (base : Nat) (v : Value) (rs : List (List Rat × Int × Rat)) (hs : a.eval s = v) (hown : LRo K w base v rs)
    (g cc : Nat) (ar : Option Addr) (nr cr : Nat) (b : Bool) (a1 a2 : Option Addr) (n1 c1 n2 c2 : Nat) (r : List Rat × Int × Rat) (hx : a.eval x = .slice (some ⟨g, 0, none⟩) 1 cc) (hrow : w.heap[g]? = some (.cells #[Value.slice ar nr cr, Value.int .i64 r.2.1, Value.bool b, Value.slice a1 n1 c1, Value.slice a2 n2 c2] 45 (0, 0)))
    (hL : K.L w (.slice ar nr cr) r.1) (hf : K.F w (.agg #[.bool b, .slice a1 n1 c1, .slice a2 n2 c2]) r.2.2) (hne : ∀ k, (Value.slice ar nr cr).ownBlock = some k → v.ownBlock ≠ some k ∧ k < w.heap.size ∧ base ≤ k) (hlen : rs.length ≤ 1000000) (hbase : base ≤ w.heap.size)
    (h : ∀ v' w', LRo K w' base v' (rs ++ [r]) → w.grownBy w' v.ownBlock → (∀ W, Below base W w → Below base W w') → (v'.ownBlock = v.ownBlock ∨ v'.ownBlock = some w.heap.size) → C (a.put o.dst v') w') :
    Oper.wp Tryz.prog o a w C Q := by
  obtain ⟨i0, hi0, hz0, hz1, hz2⟩ := info_parts info_row9
  have hlt := hown.lt
  obtain ⟨xs, hxs, hcl, hel⟩ := hown
  have hnl : [Value.slice ar nr cr, Value.int .i64 r.2.1, Value.bool b, Value.slice a1 n1 c1, Value.slice a2 n2 c2].length = 1 * 5 := rfl
  obtain ⟨v', w', hr, h2, h3, h4, h5, -, -⟩ := run_append_clean (P := Tryz.prog) (w := w) base 24 o.type 45 i0 (.agg #[Value.slice none 0 0, Value.int .i64 0, Value.bool false, Value.slice none 0 0, Value.slice none 0 0]) 5 88 Tryz.underlying24 hi0 hz0 hz1 hz2 rfl (by decide) v rs.length xs hxs ⟨g, 0, none⟩ 1 cc
    [Value.slice ar nr cr, Value.int .i64 r.2.1, Value.bool b, Value.slice a1 n1 c1, Value.slice a2 n2 c2] hnl (by
      intro j u hu
      rw [Addr.add_lit, cell_of_row _ _ _ _ _ _ hrow]
      simpa using hu) (by intro u hu; simp at hu; rcases hu with rfl | rfl | rfl | rfl | rfl <;> rfl) (by unfold maxLen; omega) (by omega) hbase (by decide)
    (by intro u hu k; simp [Value.cells] at hu; rcases hu with rfl | rfl | rfl | rfl <;> (intro e; cases e)) (by intro u hu k; simp at hu; rcases hu with rfl | rfl | rfl | rfl | rfl <;> (intro e; cases e)) hcl
  have hat : ∀ k, k < w.heap.size → v.ownBlock ≠ some k → v'.ownBlock ≠ some k := by
    intro k hk hv e
    rcases h4 with e4 | e4
    · rw [e4] at e; exact hv e
    · rw [e4] at e; simp only [Option.some.injEq] at e; omega
  unfold Oper.wp execOp
  simp only [ho, resolve, invoke, builtin, Sem.run_bind, Sem.run_pure, Result.andThen_ok, List.map_toArray, List.map_cons, List.map_nil, hs, hx, hr]
  refine h v' w' ⟨xs ++ [Value.slice ar nr cr, Value.int .i64 r.2.1, Value.bool b, Value.slice a1 n1 c1, Value.slice a2 n2 c2], by simpa using h2, h5, fun j r' hr' => ?_⟩ h3 ?_ h4
  · have hxl : xs.length = rs.length * 5 := hxs.1
    by_cases hj : j < rs.length
    · rw [List.getElem?_append_left hj] at hr'
      obtain ⟨a', n', c', b', a1', n1', c1', a2', n2', c2', e0, e1, e2, e3, e4, hl', hf', hne'⟩ := hel j r' hr'
      exact ⟨a', n', c', b', a1', n1', c1', a2', n2', c2', by rw [List.getElem?_append_left (by omega)]; exact e0, by rw [List.getElem?_append_left (by omega)]; exact e1, by rw [List.getElem?_append_left (by omega)]; exact e2, by rw [List.getElem?_append_left (by omega)]; exact e3, by rw [List.getElem?_append_left (by omega)]; exact e4,
        K.keepL hl' hcl h3 (fun k hk => (hne' k hk).1), K.keepF hf' hcl h3, fun k hk => ⟨hat k (hne' k hk).2.1 (hne' k hk).1, Nat.lt_of_lt_of_le (hne' k hk).2.1 h3.size, (hne' k hk).2.2⟩⟩
    · have hjl : j = rs.length := by
        have h9 := (List.getElem?_eq_some_iff.1 hr').1
        simp at h9; omega
      subst hjl
      simp at hr'
      subst hr'
      refine ⟨ar, nr, cr, b, a1, n1, c1, a2, n2, c2, ?_, ?_, ?_, ?_, ?_, K.keepL hL hcl h3 (fun k hk => (hne k hk).1), K.keepF hf hcl h3, fun k hk => ⟨hat k (hne k hk).2.1 (hne k hk).1, Nat.lt_of_lt_of_le (hne k hk).2.1 h3.size, (hne k hk).2.2⟩⟩
      · rw [List.getElem?_append_right (by omega), hxl]; simp
      · rw [List.getElem?_append_right (by omega), hxl, show rs.length * 5 + 1 - rs.length * 5 = 1 by omega]; rfl
      · rw [List.getElem?_append_right (by omega), hxl, show rs.length * 5 + 2 - rs.length * 5 = 2 by omega]; rfl
      · rw [List.getElem?_append_right (by omega), hxl, show rs.length * 5 + 3 - rs.length * 5 = 3 by omega]; rfl
      · rw [List.getElem?_append_right (by omega), hxl, show rs.length * 5 + 4 - rs.length * 5 = 4 by omega]; rfl
  · intro W hW
    exact hW.grown h3 hbase (fun k hk => (hlt k hk).1)
end Go.Proofs.YtafenoohjcpjgaaGreat
