/- Several texts in one: D5. -/
import Derived.Test.YtimbojhmjadgkaaZ35
import Derived.Deep.DrawnRows
/- RuleDrawn: the walk. -/
namespace Go.Proofs.Ytimbojhmjadgkaa
open Go.RowKit
attribute [local go_sem ↓] Go.wp_at_zero Go.wp_at_succ

set_option maxRecDepth 100000 in
set_option maxHeartbeats 8000000 in
theorem drawn_walk {w : World} {a : Option Addr} {c : Nat} {zs : List Int} {z : Int} (hx : IntsI w a zs) (hml : zs.length ≤ maxLen) (hz1 : -9223372036854775808 ≤ z) (hz2 : z ≤ 9223372036854775807) :
    Calls Try.prog 3 #[.slice a zs.length c, .int .i64 z] w fun e w' => e = .returned (.bool true) ∧ Below w.heap.size w w' := by
  have HX := Lib.hid hx
  obtain ⟨n, hnn⟩ : ∃ n, n = zs.length := ⟨_, rfl⟩
  rw [← hnn] at hml ⊢
  have HN := Lib.hid hnn
  clear hx hnn
  unfold maxLen at hml
  by_cases h1 : z < 1
  · have t1 : decide (z < 1) = true := by simpa using h1
    go_enter Try.func3, Try.ntmps3
    go_wp2_with fail
    go_ret
    exact ⟨rfl, Below.refl _ _⟩
  have t1 : decide (z < 1) = false := by simpa using h1
  by_cases h2 : 200 < z
  · have t2 : decide (200 < z) = true := by simpa using h2
    clear h1
    go_enter Try.func3, Try.ntmps3
    go_wp2_with fail
    go_ret
    exact ⟨rfl, Below.refl _ _⟩
  have t2 : decide (200 < z) = false := by simpa using h2
  by_cases h3 : 20 < n
  · have t3 : decide ((20 : Int) < (n : Int)) = true := by simp; omega
    clear h1 h2
    go_enter Try.func3, Try.ntmps3
    go_wp2_with fail
    go_ret
    exact ⟨rfl, Below.refl _ _⟩
  have t3 : decide ((20 : Int) < (n : Int)) = false := by simp; omega
  obtain ⟨N, rfl⟩ : ∃ N : Nat, z = (N : Int) := ⟨z.toNat, by omega⟩
  have hN1 : 1 ≤ N := by omega
  have hN2 : N ≤ 200 := by omega
  have hn20 : n ≤ 20 := by omega
  obtain ⟨l, hl⟩ : ∃ l, l = zs.map Int.toNat := ⟨_, rfl⟩
  have HLZ := Lib.hid hl
  have HLL : Hid (l.length = n) := Lib.hid (by rw [hl, List.length_map, HN.out])
  clear h1 h2 h3 hl hz1 hz2 hml
  go_enter Try.func3, Try.ntmps3
  go_wp2_with fail
  go_loop [5, 6] (fun sv iv => ∃ j : Nat, j ≤ n ∧ iv = .int .i64 j ∧ sv = .int .i64 (preN l j : Nat) ∧ Hid (∀ x y, x < j → zs[x]? = some y → 0 ≤ y ∧ y ≤ N)) (fun _ iv => n - (intOf iv).toNat)
  case atStart => exact ⟨0, Nat.zero_le _, rfl, rfl, Lib.hid (fun x y h => absurd h (Nat.not_lt_zero x))⟩
  case round =>
    obtain ⟨j, hj, rfl, rfl, hd⟩ := hrel
    have hpb : preN l j ≤ 4000 := by
      have h9 := pre_bound (l := l) (n := N) j (fun x y hx hy => by
        rw [HLZ.out, List.getElem?_map] at hy
        cases hz : zs[x]? with
        | none => rw [hz] at hy; cases hy
        | some v =>
          rw [hz] at hy
          have e : v.toNat = y := by simpa using hy
          have := hd.out x v hx hz
          omega)
      have h8 : j * N ≤ 20 * 200 := Nat.mul_le_mul (by omega) hN2
      omega
    by_cases hjn : j < n
    · have t4 : decide ((j : Int) < (n : Int)) = true := by simp; omega
      obtain ⟨B, off, y, hy, ha, hc, hy1, hy2⟩ := HX.out.at (i := j) (by have := HN.out; omega)
      subst ha
      have hc0 := hc w (Below.refl _ _)
      have HY := Lib.hid hy
      clear hc hy
      by_cases h5 : y < 0
      · have t5 : decide (y < 0) = true := by simpa using h5
        clear h5
        go_wp2_with fail
        go_ret
        exact ⟨rfl, Below.refl _ _⟩
      have t5 : decide (y < 0) = false := by simpa using h5
      by_cases h6 : (N : Int) < y
      · have t6 : decide ((N : Int) < y) = true := by simpa using h6
        clear h5 h6
        go_wp2_with fail
        go_ret
        exact ⟨rfl, Below.refl _ _⟩
      have t6 : decide ((N : Int) < y) = false := by simpa using h6
      have hy0 : 0 ≤ y := by omega
      have hyN : y ≤ N := by omega
      have HP : Hid (((preN l (j + 1) : Nat) : Int) = (preN l j : Nat) + y) := Lib.hid (by rw [HLZ.out]; exact pre_ints HY.out hy0)
      have HD : Hid (∀ x v, x < j + 1 → zs[x]? = some v → 0 ≤ v ∧ v ≤ N) := Lib.hid (fun x v hx hv => by
        by_cases e : x = j
        · subst e
          rw [HY.out] at hv
          cases hv
          exact ⟨hy0, hyN⟩
        · exact hd.out x v (by omega) hv)
      clear h5 h6
      go_wp2_with fail
      go_round
      case rel => exact ⟨j + 1, by omega, by go_num, by rw [HP.out], HD⟩
      case measure => simp [intOf]; omega
    · have t4 : decide ((j : Int) < (n : Int)) = false := by simp; omega
      have hje : j = n := by omega
      subst hje
      by_cases h7 : preN l j = N
      · have t7 : (((preN l j : Nat) : Int) != (N : Int)) = false := by simp [h7]
        have HPN := Lib.hid h7
        clear h7
        go_wp2_with fail
        obtain ⟨qs, hqs⟩ : ∃ qs, qs = l.map (partQ N) := ⟨_, rfl⟩
        have HQS := Lib.hid hqs
        have HQL : Hid (qs.length = j) := Lib.hid (by rw [hqs, List.length_map]; exact HLL.out)
        clear hqs
        go_loopw [7, 8] (fun lv iv wr => ∃ (k : Nat) (oa : Option Addr) (oc : Nat), k ≤ j ∧ iv = .int .i64 k ∧ lv = .slice oa k oc ∧ Hid (LFs 1 wr w.heap.size (.slice oa k oc) (qs.take k)) ∧ Hid (Below w.heap.size w wr)) (fun _ iv _ => j - (intOf iv).toNat)
        case atStart => exact ⟨0, none, 0, Nat.zero_le _, rfl, rfl, Lib.hid (LFs.nil _ _ _), Lib.hid (Below.refl _ _)⟩
        case round =>
          obtain ⟨k, oa, oc, hk, rfl, rfl, hO, hB⟩ := hrel
          obtain ⟨wo, rfl⟩ : ∃ wo : World, wo = wr := ⟨_, rfl⟩
          by_cases hkn : k < j
          · have t8 : decide ((k : Int) < (j : Int)) = true := by simp; omega
            obtain ⟨B, off, y, hy, ha, hc, hy1, hy2⟩ := HX.out.at (i := k) (by have := HN.out; omega)
            subst ha
            have hc0 := hc wo hB.out
            obtain ⟨hy3, hy4⟩ := hd.out k y hkn hy
            obtain ⟨x, rfl⟩ : ∃ x : Nat, y = (x : Int) := ⟨y.toNat, by omega⟩
            have hxN : x ≤ N := by omega
            obtain ⟨q, hq⟩ : ∃ q, q = partQ N x := ⟨_, rfl⟩
            have HTK : Hid (qs.take k ++ [q] = qs.take (k + 1) ∧ (qs.take k).length = k) := Lib.hid (by
              have h9 : k < qs.length := by have := HQL.out; omega
              have h8 : qs[k]? = some q := by
                rw [HQS.out, HLZ.out, List.getElem?_map, List.getElem?_map, hy, hq]; simp
              rw [List.getElem?_eq_getElem h9] at h8
              simp only [Option.some.injEq] at h8
              exact ⟨by rw [List.take_succ_eq_append_getElem h9, h8], by rw [List.length_take]; omega⟩)
            have K : Hid (Calls Try.prog 4 #[.int .i64 (x : Int), .int .i64 (N : Int)] wo fun e w' => (∃ r, e = .returned (.tuple #[r, .int .i64 0]) ∧ FracV w' r q) ∧ Below wo.heap.size wo w') := Lib.hid (by
              have h9 := rmake_w (w := wo) (x : Int) (N : Int) (by omega) (by omega) (by omega) (by omega)
              have e9 : zerB ((N : Int).natAbs) = false := zerB_false (by omega)
              rw [e9] at h9
              refine h9.mono fun e w' h => ?_
              rw [hq]
              exact ⟨by simpa [partQ] using h.1, h.2⟩)
            have HFQ : Hid ((digs q.num.natAbs).length ≤ 1 ∧ (digs q.den).length ≤ 1 ∧ lenQ q ≤ 4096) := Lib.hid (by
              rw [hq]; exact ⟨(part_small (by omega) hN2 hxN).1, (part_small (by omega) hN2 hxN).2, part_len (by omega) hN2 hxN⟩)
            clear hc hy hq hy1 hy2 hy3 hy4
            go_wp2_with fail
            refine K.out.mono ?_
            rintro en2 w2 ⟨⟨v2, rfl, f2⟩, hb2⟩
            obtain ⟨a2, n2, c2, i2, j2, k2, hq2⟩ := frac_form f2
            subst hq2
            have HF2 := Lib.hid f2
            have HB2 := Lib.hid hb2
            clear f2 hc0
            go_wp2_with ((with_reducible refine at_store ?_); refine wpList_store_var rfl _ _ _ rfl w2.heap.size rfl _ rfl _ _ (heap_alloc_new _ _) ifrac rfl frac_one ?_; intro w3 h3 hon3; refine halt ?_)
            have hb3 : Below w2.heap.size w2 w3 := below_only ((Below.refl _ _).alloc (Nat.le_refl _) _) hon3 (Nat.le_refl _)
            have HZ3 := Lib.hid (below_trans hb2 hb3)
            have s0 := cells_later h3 0 _ rfl _ (Below.refl _ _)
            have s1 := cells_later h3 1 _ rfl _ (Below.refl _ _)
            have s2 := cells_later h3 2 _ rfl _ (Below.refl _ _)
            have HF3 := Lib.hid ((HF2.out.below hb3).few HFQ.out.1 HFQ.out.2.1 HFQ.out.2.2)
            clear h3 hon3 hb3 hb2
            refine go_on ?_
            obtain ⟨bq, hbq⟩ : ∃ bq, bq = decide (q.num < 0) := ⟨_, rfl⟩
            rw [← hbq] at s0 HF3
            rw [← hbq]
            clear hbq
            obtain ⟨w4, hw4⟩ : ∃ w4, w4 = w3.alloc (Obj.cells #[Value.bool bq, Value.slice a2 n2 c2, Value.slice i2 j2 k2] 26) := ⟨_, rfl⟩
            have HB4 : Hid (Below w3.heap.size w3 w4) := Lib.hid (by rw [hw4]; exact (Below.refl _ _).alloc (Nat.le_refl _) _)
            have HR4 : Hid (w4.heap[w3.heap.size]? = some (.cells #[Value.bool bq, Value.slice a2 n2 c2, Value.slice i2 j2 k2] 26 (0, 0))) := Lib.hid (by rw [hw4]; exact heap_alloc_new w3 _)
            have HZ4 := Lib.hid (below_trans HZ3.out HB4.out)
            have HO4 := Lib.hid (hO.out.below HZ4.out)
            have HF4 := Lib.hid (HF3.out.below HB4.out)
            have hsz4 : Hid (w.heap.size ≤ w4.heap.size) := Lib.hid (by have h1 := hB.out.size; have h2 := HZ4.out.size; omega)
            go_wp2_with (at_builtin; rw [← hw4]; refine wpList_push_frac rfl _ _ rfl 1 w.heap.size (Value.slice oa k oc) (qs.take k) rfl HO4.out w3.heap.size 1 bq a2 i2 n2 c2 j2 k2 q rfl HR4.out HF4.out (by have := HTK.out.2; omega) hsz4.out ?_; intro v5 w5 hown5 hgrow5 hbel5 hat5; refine halt ?_)
            rw [HTK.out.1] at hown5
            have HO5 := Lib.hid hown5
            have HB5 := Lib.hid (hbel5 w (below_trans hB.out HZ4.out))
            obtain ⟨ga, gc, hgv⟩ := hown5.form
            have HLK : Hid ((qs.take (k + 1)).length = k + 1) := Lib.hid (by rw [List.length_take]; have := HQL.out; omega)
            rw [HLK.out] at hgv
            subst hgv
            clear hown5 hgrow5 hbel5 hat5 hw4 s0 s1 s2
            refine go_on ?_
            go_wp2_with fail
            go_roundw
            case rel => exact ⟨k + 1, _, _, by omega, by go_num, by go_num, HO5, HB5⟩
            case measure => simp [intOf]; omega
          · have t8 : decide ((k : Int) < (j : Int)) = false := by simp; omega
            have hke : k = j := by omega
            subst hke
            have HWO : Hid (ListF 1 wo (.slice oa k oc) qs ∧ (∃ a c, (Value.slice oa k oc) = .slice a qs.length c ∧ qs.length ≤ c)) := Lib.hid (by
              have h9 := hO.out
              rw [List.take_of_length_le (by have := HQL.out; omega)] at h9
              exact ⟨h9.list, h9.cap⟩)
            go_wp2_with (at_make; refine wpList_make_nums rfl _ _ _ _ rfl Try.underlying22 ii64 k rfl rfl (by omega) ?_; intro w5 hb5 hbel5 hs5; refine halt ?_)
            refine go_on ?_
            obtain ⟨Bo, hBo⟩ : ∃ B, B = wo.heap.size := ⟨_, rfl⟩
            have HB5 := Lib.hid hb5
            have HBEL5 := Lib.hid hbel5
            rw [← hBo] at HB5 ⊢
            have HBO := Lib.hid hBo
            clear hb5 hbel5 hs5 hBo
            go_wp2_with fail
            have HPART : Hid (∀ i, i < qs.length → ∃ x : Nat, x ≤ N ∧ nthQ qs i = partQ N x) := Lib.hid (fun i hi => by
              have hi2 : i < zs.length := by have := HQL.out; have := HN.out; omega
              have h9 := hd.out i _ (by have := HQL.out; omega) (List.getElem?_eq_getElem hi2)
              refine ⟨zs[i].toNat, by omega, ?_⟩
              unfold nthQ
              rw [HQS.out, HLZ.out, List.getElem?_map, List.getElem?_map, List.getElem?_eq_getElem hi2]
              rfl)
            have HLOW : Hid (∀ i, i < qs.length → ¬ cmpQ (nthQ qs i) 0 < 0) := Lib.hid (fun i hi => by
              obtain ⟨x, -, e⟩ := HPART.out i hi
              rw [e]; exact part_low (by omega))
            have HSUM : Hid (sumR (nthQ qs) 0 qs.length = 1) := Lib.hid (by
              have e9 : qs.length = l.length := by rw [HQL.out, HLL.out]
              rw [e9, HQS.out, part_sum (by omega) l.length (Nat.le_refl _), HLL.out, HPN.out]
              exact part_whole (by omega))
            have KD : Hid (∀ w' v t, t < N → Below wo.heap.size wo w' → FewF 1 w' v (partQ N t) → Calls Try.prog 5 #[.slice oa k oc, v] w' fun e w'' => (∃ o : Nat, e = .returned (.tuple #[.int .i64 o, .int .i64 0]) ∧ o < k ∧ preN l o ≤ t ∧ t < preN l (o + 1)) ∧ Below w'.heap.size w' w'') := Lib.hid (fun w' v t ht hb hv => by
              refine (draw_d (HWO.out.1.below hb) hv (by have := HQL.out; omega) HLOW.out HWO.out.2 HSUM.out (part_low (by omega)) (part_high (by omega) ht)).mono fun e w'' h => ?_
              obtain ⟨⟨o, he, hd⟩, hb9⟩ := h
              rw [HQS.out] at hd
              have h8 := drawn_parts (by omega) ht (by rw [HLL.out]; exact HPN.out) hd
              exact ⟨⟨o, he, by have := HLL.out; omega, h8.2.1, h8.2.2⟩, hb9⟩)
            have KM : Hid (∀ w' t, t < N → Calls Try.prog 4 #[.int .i64 (t : Nat), .int .i64 (N : Int)] w' fun e w'' => (∃ r, e = .returned (.tuple #[r, .int .i64 0]) ∧ FracV w'' r (partQ N t)) ∧ Below w'.heap.size w' w'') := Lib.hid (fun w' t ht => by
              have h9 := rmake_w (w := w') (t : Int) (N : Int) (by omega) (by omega) (by omega) (by omega)
              have e9 : zerB ((N : Int).natAbs) = false := zerB_false (by omega)
              rw [e9] at h9
              refine h9.mono fun e w' h => ?_
              exact ⟨by simpa [partQ] using h.1, h.2⟩)
            have HFQ : Hid (∀ t, t < N → (digs (partQ N t).num.natAbs).length ≤ 1 ∧ (digs (partQ N t).den).length ≤ 1 ∧ lenQ (partQ N t) ≤ 4096) := Lib.hid (fun t ht => ⟨(part_small (by omega) hN2 (by omega)).1, (part_small (by omega) hN2 (by omega)).2, part_len (by omega) hN2 (by omega)⟩)
            have HMONO : Hid (∀ o, o < k → preN l (o + 1) ≤ N) := Lib.hid (fun o ho => by rw [← HPN.out]; exact pre_mono l (by omega))
            have HWB : Hid (w.heap.size ≤ wo.heap.size) := Lib.hid hB.out.size
            go_loopw [12] (fun iv wr => ∃ (t : Nat) (M : List Nat), t ≤ N ∧ iv = .int .i64 t ∧ Hid (BlkI wr Bo 3 M) ∧ Hid (M.length = k) ∧ Hid (∀ o, o < k → nth M o = cntN l t o) ∧ Hid (Below wo.heap.size wo wr)) (fun iv _ => N - (intOf iv).toNat)
            case atStart => exact ⟨0, _, Nat.zero_le _, rfl, HB5, Lib.hid (by simp), Lib.hid (fun o ho => by rw [cnt_zero]; simp [nth, ho]), HBEL5⟩
            case round =>
              obtain ⟨t, M, ht, rfl, hM, hMl, hMv, hbel⟩ := hrel
              obtain ⟨wi, rfl⟩ : ∃ wi : World, wi = wr := ⟨_, rfl⟩
              by_cases htn : t < N
              · have t9 : decide ((t : Int) < (N : Int)) = true := by simp; omega
                have K := Lib.hid (KM.out wi t htn)
                obtain ⟨q, hq⟩ : ∃ q, q = partQ N t := ⟨_, rfl⟩
                have HQT := Lib.hid hq
                rw [← hq] at K
                clear hq
                go_wp2_with fail
                refine K.out.mono ?_
                rintro en6 w6 ⟨⟨v6, rfl, f6⟩, hb6⟩
                obtain ⟨a6, n6, c6, i6, j6, k6, hq6⟩ := frac_form f6
                subst hq6
                have HF6 := Lib.hid f6
                clear f6
                go_wp2_with ((with_reducible refine at_store ?_); refine wpList_store_var rfl _ _ _ rfl w6.heap.size rfl _ rfl _ _ (heap_alloc_new _ _) ifrac rfl frac_one ?_; intro w7 h7 hon7; refine halt ?_)
                have hb7 : Below w6.heap.size w6 w7 := below_only ((Below.refl _ _).alloc (Nat.le_refl _) _) hon7 (Nat.le_refl _)
                have HZ7 := Lib.hid (below_trans hb6 hb7)
                have s0 := cells_later h7 0 _ rfl _ (Below.refl _ _)
                have s1 := cells_later h7 1 _ rfl _ (Below.refl _ _)
                have s2 := cells_later h7 2 _ rfl _ (Below.refl _ _)
                have HF7 := Lib.hid ((HF6.out.below hb7).few (by rw [HQT.out]; exact (HFQ.out t htn).1) (by rw [HQT.out]; exact (HFQ.out t htn).2.1) (by rw [HQT.out]; exact (HFQ.out t htn).2.2))
                have KD7 := Lib.hid (KD.out w7 _ t htn (below_trans hbel.out HZ7.out) (by rw [← HQT.out]; exact HF7.out))
                clear h7 hon7 hb7 hb6
                refine go_on ?_
                go_wp2_with fail
                refine KD7.out.mono ?_
                rintro en8 w8 ⟨⟨o, rfl, ho, ho1, ho2⟩, hb8⟩
                have HZ8 := Lib.hid (below_trans HZ7.out hb8)
                have hBlt : Bo < wi.heap.size := lt_of_block hM.out
                have HM8 : Hid (BlkI w8 Bo 3 M) := Lib.hid ((HZ8.out.block _ hBlt).trans hM.out)
                have u1 : decide ((o : Int) < 0) = false := by simp
                have u2 : decide ((k : Int) ≤ (o : Int)) = false := by simp; omega
                have hcell := HM8.out.cell o (by have := hMl.out; omega)
                have hfree := HM8.out.free o
                obtain ⟨m, hm⟩ : ∃ m, m = nth M o := ⟨_, rfl⟩
                rw [← hm] at hcell
                have hm9 : m ≤ 200 := by rw [hm, hMv.out o ho]; have := cnt_le (l := l) (k := t) (j := o); omega
                have HMS : Hid (BlkI (w8.setCell ⟨Bo, o, none⟩ (.int .i64 ((m : Int) + 1))) Bo 3 (M.set o (m + 1))) := Lib.hid (HM8.out.setCell o (m + 1) _ (by simp [In]))
                have HMV : Hid (∀ x, x < k → nth (M.set o (m + 1)) x = cntN l (t + 1) x) := Lib.hid (fun x hx => by
                  by_cases e : x = o
                  · subst e
                    rw [cnt_same ho1 ho2, ← hMv.out x hx, ← hm]
                    have := hMl.out
                    simp [nth, List.getD_eq_getElem?_getD, show x < M.length by omega]
                  · rw [cnt_other ho1 ho2 e, ← hMv.out x hx]
                    simp [nth, List.getD_eq_getElem?_getD, Ne.symm e])
                have HBS : Hid (Below wo.heap.size wo (w8.setCell ⟨Bo, o, none⟩ (.int .i64 ((m : Int) + 1)))) := Lib.hid ((below_trans hbel.out HZ8.out).setCell (by rw [HBO.out]; exact Nat.le_refl _) _)
                clear hm hb8 ho1 ho2 s0 s1 s2
                go_wp2_with fail
                go_roundw
                case rel => exact ⟨t + 1, _, by omega, by go_num, HMS, Lib.hid (by rw [List.length_set]; exact hMl.out), HMV, HBS⟩
                case measure => simp [intOf]; omega
              · have t9 : decide ((t : Int) < (N : Int)) = false := by simp; omega
                have hte : t = N := by omega
                subst hte
                have KE : Hid (Calls Try.prog 6 #[.slice (some ⟨Bo, 0, none⟩) k k, .slice a k c] wi fun e w' => e = .returned (.bool true) ∧ Below wi.heap.size wi w') := Lib.hid (sameints_d (by omega) (fun i hi => by
                  obtain ⟨B, off, y, hy, ha, hc, -, -⟩ := HX.out.at (i := i) (by have := HN.out; omega)
                  refine ⟨Bo, 0, B, off, y, rfl, ha, ?_, hc wi (below_trans hB.out hbel.out)⟩
                  have h9 := hM.out.cell i (by have := hMl.out; omega)
                  rw [Nat.zero_add, h9, hMv.out i hi, cnt_end (HMONO.out i hi), HLZ.out, List.getElem?_map, hy]
                  have := (hd.out i y hi hy).1
                  simp; omega))
                go_wp2_with fail
                refine KE.out.mono ?_
                rintro en9 w9 ⟨rfl, hb9⟩
                go_wp2_with fail
                go_ret
                exact ⟨rfl, below_trans hB.out (below_trans hbel.out hb9)⟩
      · have t7 : (((preN l j : Nat) : Int) != (N : Int)) = true := by simp; omega
        clear h7
        go_wp2_with fail
        go_ret
        exact ⟨rfl, Below.refl _ _⟩
end Go.Proofs.Ytimbojhmjadgkaa
