/- Several texts in one: Yx, Yt. -/
import Derived.Test.YtafenoohjcpjgaaGreatZ28
import Derived.Deep.RegionHeld3
import Derived.Deep.DrawnRows
/- Clones of lists of rows. -/
namespace Go.Proofs.YtafenoohjcpjgaaGreat
open Go.RowKit
attribute [local go_sem ↓] Go.wp_at_zero Go.wp_at_succ

/-- An empty row of a type. -/
theorem own_empty {w : World} {base g : Nat} {t : TypeId} {s : Nat} (hg : w.heap[g]? = some (.cells #[] t (0, 0))) (hb : base ≤ g) : w.ownsRow base t s (.slice (some ⟨g, 0, none⟩) 0 0) 0 [] :=
  ⟨by simp, .inr ⟨g, 0, #[], rfl, hb, hg, Nat.le_refl _, by unfold maxLen; omega, by simp, by simp⟩⟩
theorem clean_empty {w : World} {g : Nat} {t : TypeId} (hg : w.heap[g]? = some (.cells #[] t (0, 0))) : Clean w (.slice (some ⟨g, 0, none⟩) 0 0) := by
  intro g' cs e fr hb hh u hu
  have h9 : some g = some g' := hb
  obtain rfl := Option.some.inj h9
  rw [hg] at hh
  simp only [Option.some.injEq, Obj.cells.injEq] at hh
  obtain ⟨rfl, -, -⟩ := hh
  simp at hu
set_option maxHeartbeats 1000000 in
/-- The rows of a list of the call's own, appended to an empty one. -/
theorem oper_clone_rows {K : RowK} {w : World} {o : Oper} {a : Act} {C : Act → World → Prop} {Q : Exit → Act → World → Prop} (s x : Operand)
    (ho : o.op = .call { callee := .builtin .append, args := #[s, x], argTypes := #[24, 24] }) (base base0 g : Nat) (hs : a.eval s = .slice (some ⟨g, 0, none⟩) 0 0) (hg : w.heap[g]? = some (.cells #[] 45 (0, 0))) (hbg : base ≤ g) (hb0 : base ≤ base0)
    (ar : Addr) (n c : Nat) (rs : List (List Rat × Int × Rat)) (hx : a.eval x = .slice (some ar) n c) (hown : LRo K w base0 (.slice (some ar) n c) rs) (hn : 0 < n) (hn9 : n ≤ 1000000)
    (hgn : ∀ (v : Value) (qs : List Rat), K.L w v qs → v.ownBlock ≠ some g)
    (h : ∀ v' w', LRo K w' base v' rs → w.grownBy w' (some g) → (∀ W, Below g W w → Below g W w') → (∀ k, v'.ownBlock = some k → g ≤ k) → C (a.put o.dst v') w') :
    Oper.wp Tryz.prog o a w C Q := by
  obtain ⟨i0, hi0, hz0, hz1, hz2⟩ := info_parts info_row9
  have hcells0 := hown
  obtain ⟨xs, hxs, hcl, hel⟩ := hown
  have hnl : n = rs.length := by
    rcases hxs.2 with ⟨h0, -⟩ | ⟨g', cap', cur', hv, -⟩
    · cases h0
    · simp only [Value.slice.injEq] at hv; exact hv.2.1
  have hcells := fun k hk => World.ownsRow.cells hxs (g := k) hk
  have hxl : xs.length = n * 5 := by rw [hnl]; exact hxs.1
  have hnoU : ∀ u ∈ xs, NoU u := by
    rcases hxs.2 with ⟨h0, -⟩ | ⟨g', cap', cur', hv, -, hh, -, -, -, htake⟩
    · cases h0
    · intro u hu
      rw [← htake] at hu
      have h9 : (Value.slice (some ar) n c).ownBlock = some g' := by rw [hv]; rfl
      exact hcl g' cur' _ (0, 0) h9 hh u (List.mem_of_mem_take hu)
  obtain ⟨g1, har⟩ : ∃ g1, ar = ⟨g1, 0, none⟩ := by
    rcases hxs.2 with ⟨h0, -⟩ | ⟨g', cap', cur', hv, -⟩
    · cases h0
    · simp only [Value.slice.injEq, Option.some.injEq] at hv; exact ⟨g', hv.1⟩
  subst har
  have h1c : ∀ u ∈ xs, u.oneCell' = true := by
    intro u hu
    obtain ⟨k, hk, rfl⟩ := List.mem_iff_getElem.1 hu
    have hk5 : k / 5 < rs.length := by omega
    obtain ⟨a', n', c', b, a1, n1, c1, a2, n2, c2, e0, e1, e2, e3, e4, -⟩ := hel (k / 5) _ (List.getElem?_eq_getElem hk5)
    have hk9 := List.getElem?_eq_getElem hk
    rcases (by omega : k = k / 5 * 5 ∨ k = k / 5 * 5 + 1 ∨ k = k / 5 * 5 + 2 ∨ k = k / 5 * 5 + 3 ∨ k = k / 5 * 5 + 4) with e | e | e | e | e
    · rw [← e] at e0; rw [e0] at hk9; rw [← Option.some.inj hk9]; rfl
    · rw [← e] at e1; rw [e1] at hk9; rw [← Option.some.inj hk9]; rfl
    · rw [← e] at e2; rw [e2] at hk9; rw [← Option.some.inj hk9]; rfl
    · rw [← e] at e3; rw [e3] at hk9; rw [← Option.some.inj hk9]; rfl
    · rw [← e] at e4; rw [e4] at hk9; rw [← Option.some.inj hk9]; rfl
  have hgl : g < w.heap.size := lt_of_block hg
  obtain ⟨v', w', hr, h2, h3, h4, h5, -, -⟩ := run_append_clean (P := Tryz.prog) (w := w) base 24 o.type 45 i0 (.agg #[Value.slice none 0 0, Value.int .i64 0, Value.bool false, Value.slice none 0 0, Value.slice none 0 0]) 5 88 Tryz.underlying24 hi0 hz0 hz1 hz2 rfl (by decide) (.slice (some ⟨g, 0, none⟩) 0 0) 0 [] (own_empty hg hbg) ⟨g1, 0, none⟩ n c
    xs hxl (by
      intro j u hu
      exact hcells g1 rfl j u hu) h1c (by unfold maxLen; omega) (by omega) (by omega) hn
    (by intro u hu k; simp [Value.cells] at hu; rcases hu with rfl | rfl | rfl | rfl <;> (intro e; cases e)) hnoU (clean_empty hg)
  have hat : ∀ k, k < w.heap.size → k ≠ g → v'.ownBlock ≠ some k := by
    intro k hk hv e
    rcases h4 with e4 | e4
    · rw [e4] at e; have h9 : some g = some k := e; exact hv (Option.some.inj h9).symm
    · rw [e4] at e; simp only [Option.some.injEq] at e; omega
  unfold Oper.wp execOp
  simp only [ho, resolve, invoke, builtin, Sem.run_bind, Sem.run_pure, Result.andThen_ok, List.map_toArray, List.map_cons, List.map_nil, hs, hx, hr]
  refine h v' w' ⟨xs, by rw [← hnl]; simpa using h2, h5, fun j r' hr' => ?_⟩ h3 ?_ (fun k hk => by
    rcases h4 with e4 | e4
    · rw [e4] at hk; have h9 : some g = some k := hk; exact Nat.le_of_eq (Option.some.inj h9)
    · rw [e4] at hk; have h9 := Option.some.inj hk; omega)
  · obtain ⟨a', n', c', b', a1', n1', c1', a2', n2', c2', e0, e1, e2, e3, e4, hl', hf', hne'⟩ := hel j r' hr'
    exact ⟨a', n', c', b', a1', n1', c1', a2', n2', c2', e0, e1, e2, e3, e4,
        K.keepL hl' (clean_empty hg) h3 (fun k hk e => by have h9 : some g = some k := e; exact hgn _ _ hl' (by rw [hk, Option.some.inj h9])), K.keepF hf' (clean_empty hg) h3, fun k hk => ⟨hat k (hne' k hk).2.1 (fun e => hgn _ _ hl' (by rw [hk, e])), Nat.lt_of_lt_of_le (hne' k hk).2.1 h3.size, Nat.le_trans hb0 (hne' k hk).2.2⟩⟩
  · intro W hW
    exact hW.grown h3 (Nat.le_of_lt hgl) (fun k hk => by have h9 : some g = some k := hk; have := Option.some.inj h9; omega)
theorem wpList_clone_rows {K : RowK} {w : World} {ops : Array Oper} {rest : List Oper} {o : Oper} {a : Act} {Q : Exit → Act → World → Prop} (hgd : o.guard = none) (s x : Operand)
    (ho : o.op = .call { callee := .builtin .append, args := #[s, x], argTypes := #[24, 24] }) (base base0 g : Nat) (hs : a.eval s = .slice (some ⟨g, 0, none⟩) 0 0) (hg : w.heap[g]? = some (.cells #[] 45 (0, 0))) (hbg : base ≤ g) (hb0 : base ≤ base0)
    (ar : Addr) (n c : Nat) (rs : List (List Rat × Int × Rat)) (hx : a.eval x = .slice (some ar) n c) (hown : LRo K w base0 (.slice (some ar) n c) rs) (hn : 0 < n) (hn9 : n ≤ 1000000)
    (hgn : ∀ (v : Value) (qs : List Rat), K.L w v qs → v.ownBlock ≠ some g)
    (h : ∀ v' w', LRo K w' base v' rs → w.grownBy w' (some g) → (∀ W, Below g W w → Below g W w') → (∀ k, v'.ownBlock = some k → g ≤ k) → wpList Tryz.prog ops Q rest (a.put o.dst v') w') :
    wpList Tryz.prog ops Q (o :: rest) a w :=
  wpList_plain hgd fun _ hK => oper_clone_rows s x ho base base0 g hs hg hbg hb0 ar n c rs hx hown hn hn9 hgn fun v' w' h1 h2 h3 h4 => hK _ _ (h v' w' h1 h2 h3 h4)
/-- No list of numbers lies in a block of rows. -/
def BlkK (K : RowK) : Prop := ∀ {w : World} {v : Value} {qs : List Rat}, K.L w v qs → ∀ g, v.ownBlock = some g → ∃ cs, w.heap[g]? = some (.cells cs 43 (0, 0))
theorem blk_rkV : BlkK rkV := fun h => rkV_blk h
theorem blk_rkF (M : Nat) : BlkK (rkF M) := fun h => rkF_blk h
set_option maxRecDepth 8000 in
set_option maxHeartbeats 2000000 in
theorem rclone_w {K : RowK} (hK : BlkK K) {w : World} {base n c : Nat} {a : Option Addr} {rs : List (List Rat × Int × Rat)} (h : LRo K w base (.slice a n c) rs) (hn9 : n ≤ 1000) (hb9 : base ≤ w.heap.size) :
    Calls Tryz.prog 63 #[.slice a n c] w fun e w' => (∃ a' c', e = .returned (.slice a' n c') ∧ LRo K w' base (.slice a' n c') rs ∧ ∀ g, (Value.slice a' n c').ownBlock = some g → w.heap.size ≤ g) ∧ Below w.heap.size w w' := by
  have hnl : n = rs.length := by
    obtain ⟨a', c', hq⟩ := h.form
    simp only [Value.slice.injEq] at hq
    exact hq.2.1
  have H := Lib.hid h
  have HNL := Lib.hid hnl
  obtain ⟨w1, hw1⟩ : ∃ w1, w1 = w.alloc (Obj.cells #[] 45) := ⟨_, rfl⟩
  have HB1 : Hid (Below w.heap.size w w1) := Lib.hid (by rw [hw1]; exact (Below.refl _ _).alloc (Nat.le_refl _) _)
  have HG1 : Hid (w1.heap[w.heap.size]? = some (.cells #[] 45 (0, 0))) := Lib.hid (by rw [hw1]; exact heap_alloc_new w _)
  have HW1 := Lib.hid hw1.symm
  cases a with
  | none =>
    have hn0 : n = 0 := by
      obtain ⟨xs, ⟨-, ho⟩, -⟩ := h
      rcases ho with ⟨h0, -⟩ | ⟨g', cap', cur', hv, -⟩
      · simp only [Value.slice.injEq] at h0; exact h0.2.1
      · simp only [Value.slice.injEq] at hv; cases hv.1
    have hcz : c = 0 := by
      obtain ⟨xs, ⟨-, ho⟩, -⟩ := h
      rcases ho with ⟨h0, -⟩ | ⟨g', cap', cur', hv, -⟩
      · simp only [Value.slice.injEq] at h0; exact h0.2.2
      · simp only [Value.slice.injEq] at hv; cases hv.1
    subst hn0
    subst hcz
    have hcmp : ∀ w', Sem.run Tryz.prog (binOp BinOp.eql 24 (Value.slice none 0 0) (Value.slice none 0 0)) w' = Result.ok (Value.bool true) w' := fun _ => rfl
    clear h hnl hw1
    go_enter Tryz.func63, Tryz.ntmps63
    go_wp2_with fail
    go_ret
    exact ⟨⟨_, _, rfl, H.out, fun g hg => by simp [Value.ownBlock] at hg⟩, Below.refl _ _⟩
  | some ar =>
    have hcmp : ∀ w', Sem.run Tryz.prog (binOp BinOp.eql 24 (Value.slice (some ar) n c) (Value.slice none 0 0)) w' = Result.ok (Value.bool false) w' := fun _ => rfl
    clear h hnl hw1
    by_cases hn : 0 < n
    · go_enter Tryz.func63, Tryz.ntmps63
      go_wp2_with (at_builtin; rw [HW1.out]; refine wpList_clone_rows (K := K) rfl _ _ rfl base base w.heap.size rfl HG1.out hb9 (Nat.le_refl _) ar n c rs rfl (H.out.below HB1.out) hn (by omega) (fun v qs hl e => by
        obtain ⟨cs, h1⟩ := hK hl _ e
        rw [HG1.out] at h1
        simp at h1) ?_; intro v' w2 hl2 hg2 hb2 hk2; clear hg2; refine halt ?_)
      refine go_on ?_
      have HL2 := Lib.hid hl2
      have HK2 := Lib.hid hk2
      have HZ2 := Lib.hid (hb2 w HB1.out)
      obtain ⟨a2, c2, hq⟩ := hl2.form
      rw [← HNL.out] at hq
      subst hq
      clear hl2 hb2 hk2 hcmp
      go_wp2_with fail
      go_ret
      exact ⟨⟨_, _, rfl, HL2.out, HK2.out⟩, HZ2.out⟩
    · have hn0 : n = 0 := by omega
      subst hn0
      have HR0 : Hid (rs = []) := Lib.hid (List.eq_nil_of_length_eq_zero HNL.out.symm)
      have hap : ∀ w' : World, (Builtin.append_ #[24, 24] 24 #[.slice (some ⟨w.heap.size, 0, none⟩) 0 0, .slice (some ar) 0 c]).run Tryz.prog w' = .ok (.slice (some ⟨w.heap.size, 0, none⟩) 0 0) w' := fun _ => rfl
      go_enter Tryz.func63, Tryz.ntmps63
      go_wp2_with fail
      rw [HW1.out]
      go_ret
      exact ⟨⟨_, _, rfl, by rw [HR0.out]; exact ⟨[], own_empty HG1.out hb9, clean_empty HG1.out, fun j r h => by simp at h⟩, fun g hg => by have h9 : some w.heap.size = some g := hg; exact Nat.le_of_eq (Option.some.inj h9)⟩, HB1.out⟩
end Go.Proofs.YtafenoohjcpjgaaGreat

/- A row of one variable. -/
namespace Go.Proofs.YtafenoohjcpjgaaGreat
open Go.RowKit
attribute [local go_sem ↓] Go.wp_at_zero Go.wp_at_succ

set_option maxRecDepth 8000 in
set_option maxHeartbeats 4000000 in
theorem readzV_w {w : World} {n : Nat} (hn : n ≤ 1000) :
    Calls Tryz.prog 19 #[.int .i64 (n : Nat), .func (.func 117) #[] #[]] w fun e w' => (∃ r, e = .returned r ∧ ListV w' r (List.replicate n 0) ∧ ∀ g, r.ownBlock = some g → w.heap.size ≤ g) ∧ Below w.heap.size w w' := by
  have KZ := Lib.hid (fun w' i => zeros1_w (w := w') (i := i))
  have KF : Hid (∀ w', Calls Tryz.prog 52 #[.agg #[Value.bool false, Value.slice none 0 0, Value.slice none 0 0]] w' (TellPost w' 0)) := Lib.hid (fun w' => by
    rw [← nofix9]; exact fix_w ⟨_, _, rfl, IsW.nil w', IsW.nil w'⟩)
  obtain ⟨U0, hU0⟩ : ∃ U0, U0 = (0 : Rat) := ⟨_, rfl⟩
  have HU0 := Lib.hid hU0
  rw [← hU0] at KF
  clear hU0
  go_enter Tryz.func19, Tryz.ntmps19
  go_wp2_with (at_make; refine wpList_make_three rfl _ _ _ 43 rfl Tryz.underlying23 _ _ _ _ info_frac9 n rfl rfl (by omega) (by omega) ?_; intro w1 hr1 hb1 hs1; refine halt ?_)
  refine go_on ?_
  have HB1 := Lib.hid hb1
  have HR0 : Hid (FracsTo w1 w.heap.size n 0 (fun _ => U0)) := Lib.hid ⟨_, hr1, fun i _ => ⟨none, 0, 0, false, none, 0, 0, rfl, fun h => absurd h (Nat.not_lt_zero _)⟩⟩
  clear hr1 hb1 hs1
  go_wp2_with fail
  go_loopw [10] (fun iv wr => ∃ i : Nat, i ≤ n ∧ iv = .int .i64 i ∧ Hid (FracsTo wr w.heap.size n i (fun _ => U0)) ∧ Hid (Below w.heap.size w wr)) (fun iv _ => n - (intOf iv).toNat)
  case atStart => exact ⟨0, Nat.zero_le _, rfl, HR0, HB1⟩
  case round =>
    obtain ⟨i, hi, rfl, hR, hB⟩ := hrel
    obtain ⟨wo, rfl⟩ : ∃ wo : World, wo = wr := ⟨_, rfl⟩
    by_cases hin : i < n
    · have t0 : decide ((i : Int) < (n : Int)) = true := by simp; omega
      go_wp2_with fail
      refine (KZ.out _ _).mono ?_
      rintro en2 w2 ⟨rfl, hb2⟩
      go_wp2_with fail
      refine (KF.out _).mono ?_
      rintro en3 w3 ⟨⟨v3, rfl, f3, -⟩, hb3⟩
      obtain ⟨a3, n3, c3, i3, j3, k3, hq3⟩ := frac_form f3
      subst hq3
      have hz3 := below_trans hb2 hb3
      have HF3 := Lib.hid f3
      have HB3 := Lib.hid (below_trans hB.out hz3)
      obtain ⟨f, hr4, he4⟩ := hR.out.below hz3
      have HR4 := Lib.hid hr4
      have HE4 := Lib.hid he4
      obtain ⟨bq, hbq⟩ : ∃ bq, bq = decide (U0.num < 0) := ⟨_, rfl⟩
      rw [← hbq] at HF3
      rw [← hbq]
      clear f3 hb2 hb3 hz3 hr4 he4 hbq
      go_wp2_with ((with_reducible refine at_store ?_); refine wpList_store_three rfl _ _ _ rfl w.heap.size n i rfl _ _ _ rfl _ f HR4.out hin rfl frac_one ?_; intro w5 hr5 hon5; refine halt ?_)
      refine go_on ?_
      have HR5 := Lib.hid (FracsTo.store HR4.out HE4.out HF3.out hr5 hon5)
      have HB5 := Lib.hid (below_only HB3.out hon5 (Nat.le_refl _))
      clear hr5 hon5
      go_wp2_with fail
      go_roundw
      case rel => exact ⟨i + 1, by omega, by go_num, HR5, HB5⟩
      case measure => simp [intOf]; omega
    · have t0 : decide ((i : Int) < (n : Int)) = false := by simp; omega
      obtain rfl : i = n := by omega
      have HE : Hid (ListV wo (.slice (some ⟨w.heap.size, 0, none⟩) i i) (List.replicate i 0)) := Lib.hid (by
        have h9 := hR.out
        have e9 : (fun _ => U0 : Nat → Rat) = nthQ (List.replicate i 0) := by funext x; rw [nth_rep, HU0.out]
        rw [e9] at h9
        exact ⟨w.heap.size, by rw [List.length_replicate], by rw [List.length_replicate]; exact h9⟩)
      go_wp2_with fail
      go_ret
      exact ⟨⟨_, rfl, HE.out, fun g h => by have h9 : some w.heap.size = some g := h; have := Option.some.inj h9; omega⟩, hB.out⟩
set_option maxRecDepth 8000 in
theorem zerosV_w {w : World} {n : Nat} (hn : n ≤ 1000) :
    Calls Tryz.prog 91 #[.int .i64 (n : Nat)] w fun e w' => (∃ r, e = .returned r ∧ ListV w' r (List.replicate n 0) ∧ ∀ g, r.ownBlock = some g → w.heap.size ≤ g) ∧ Below w.heap.size w w' := by
  have K := Lib.hid (readzV_w (w := w) hn)
  go_enter Tryz.func91, Tryz.ntmps91
  go_wp2_with fail
  refine K.out.mono ?_
  rintro en2 w2 ⟨⟨r2, rfl, h2, h3⟩, hb2⟩
  go_wp2_with fail
  go_ret
  exact ⟨⟨_, rfl, h2, h3⟩, hb2⟩

theorem oper_store_three {P : Program} {o : Oper} {a : Act} {w : World} {K : Act → World → Prop} {Q : Exit → Act → World → Prop} (ty : TypeId) (x y : Operand) (ho : o.op = .store ty x y)
    (g n k : Nat) (hx : a.eval x = .pointer (some ⟨g, k * 3, none⟩)) (v0 v1 v2 : Value) (hy : a.eval y = .agg #[v0, v1, v2]) (t : TypeId) (f : Nat → Value × Value × Value) (hg : Row3 w g t n f) (hk : k < n)
    (hi : (P.info? ty).map (·.size) = some 3) (h1 : ∀ v ∈ (#[v0, v1, v2] : Array Value).toList, v.oneCell' = true)
    (h : ∀ w', Row3 w' g t n (fun j => if j = k then (v0, v1, v2) else f j) → Only g w w' → K (a.put o.dst undef) w') : Oper.wp P o a w K Q := by
  obtain ⟨cur, hc, hn, hf⟩ := hg
  unfold Oper.wp execOp
  have hr := run_storeVar_at (P := P) w g (k * 3) t ty cur #[v0, v1, v2] hc hi (by simp; omega) h1
  simp only [ho, hx, hy, Instr.storeAt, Instr.sureAddr, Sem.run_bind, Sem.run_pure, Result.andThen_ok, hr]
  refine (h _ ⟨_, setRow_heap w g cur _ t _ hc, ?_, fun i hi => ?_⟩ ⟨rfl, rfl, rfl, by simp [World.setRow], fun k hk => setRow_other w g k _ hk⟩)
  · simp; omega
  · have ht : (cur.toList.take (k * 3)).length = k * 3 := by simp; omega
    have hget : ∀ m, (cur.toList.take (k * 3) ++ (#[v0, v1, v2] : Array Value).toList ++ cur.toList.drop (k * 3 + 3)).toArray[m]? = if m < k * 3 then cur[m]? else if m < k * 3 + 3 then [v0, v1, v2][m - k * 3]? else cur[m]? := by
      intro m
      rw [List.getElem?_toArray, List.append_assoc]
      by_cases h1 : m < k * 3
      · rw [if_pos h1, List.getElem?_append_left (by omega), List.getElem?_take_of_lt h1]; simp
      · rw [if_neg h1, List.getElem?_append_right (by omega), ht]
        by_cases h2 : m < k * 3 + 3
        · rw [if_pos h2, List.getElem?_append_left (by simp; omega)]
        · rw [if_neg h2, List.getElem?_append_right (by simp; omega), List.getElem?_drop]
          rw [show k * 3 + 3 + (m - k * 3 - (#[v0, v1, v2] : Array Value).toList.length) = m by simp; omega]
          simp
    obtain ⟨e0, e1, e2⟩ := hf i hi
    have hsz : (#[v0, v1, v2] : Array Value).size = 3 := rfl
    rw [hsz, hget, hget, hget]
    by_cases hik : i = k
    · subst hik
      simp only [↓reduceIte]
      rw [if_neg (by omega), if_pos (by omega), if_neg (by omega), if_pos (by omega), if_neg (by omega), if_pos (by omega)]
      rw [Nat.sub_self, show i * 3 + 1 - i * 3 = 1 by omega, show i * 3 + 2 - i * 3 = 2 by omega]
      exact ⟨rfl, rfl, rfl⟩
    · simp only [if_neg hik]
      by_cases hlt : i < k
      · rw [if_pos (by omega), if_pos (by omega), if_pos (by omega)]
        exact ⟨e0, e1, e2⟩
      · rw [if_neg (by omega), if_neg (by omega), if_neg (by omega), if_neg (by omega), if_neg (by omega), if_neg (by omega)]
        exact ⟨e0, e1, e2⟩
/-- The list of one variable, whose number is 1. -/
def unitQ (n v : Nat) : List Rat := (List.range n).map (fun j => if j = v then (1 : Rat) else 0)
theorem unitQ_len (n v : Nat) : (unitQ n v).length = n := by simp [unitQ]
theorem unitQ_at {n v i : Nat} (hi : i < n) : nthQ (unitQ n v) i = if i = v then 1 else 0 := by
  unfold nthQ unitQ
  rw [List.getElem?_map, List.getElem?_range hi]
  rfl
theorem FracsTo.put {w w' : World} {B n j : Nat} {q : Rat} {g : Nat → Rat} {a1 a2 : Option Addr} {n1 c1 n2 c2 : Nat} {b : Bool} {f : Nat → Value × Value × Value}
    (hr : Row3 w B 43 n f) (he : ∀ i, i < n → ∃ a1 n1 c1 b a2 n2 c2, f i = (.bool b, .slice a1 n1 c1, .slice a2 n2 c2) ∧ (i < n → FracV w (.agg #[.bool b, .slice a1 n1 c1, .slice a2 n2 c2]) (g i)))
    (hq : FracV w (.agg #[.bool b, .slice a1 n1 c1, .slice a2 n2 c2]) q) (hr' : Row3 w' B 43 n (fun i => if i = j then (.bool b, .slice a1 n1 c1, .slice a2 n2 c2) else f i)) (ho : Only B w w') : FracsTo w' B n n (fun i => if i = j then q else g i) := by
  obtain ⟨c, hc, hU⟩ := fracs_cells hr (fun i hi => by obtain ⟨a1, n1, c1, b, a2, n2, c2, e, -⟩ := he i hi; exact ⟨a1, n1, c1, b, a2, n2, c2, e⟩)
  have keep : ∀ {v : Value} {q : Rat}, FracV w v q → FracV w' v q := by
    intro v q h
    obtain ⟨u, d, rfl, h1, h2⟩ := h
    exact ⟨u, d, rfl, h1.other hc hU ho, h2.other hc hU ho⟩
  refine ⟨_, hr', fun i hi => ?_⟩
  by_cases hij : i = j
  · subst hij
    exact ⟨a1, n1, c1, b, a2, n2, c2, by simp, fun _ => by simp only [if_true]; exact keep hq⟩
  · obtain ⟨a1', n1', c1', b', a2', n2', c2', e, h⟩ := he i hi
    exact ⟨a1', n1', c1', b', a2', n2', c2', by simp only [if_neg hij]; exact e, fun h9 => by simp only [if_neg hij]; exact keep (h h9)⟩
theorem FracsTo.congr {w : World} {B n : Nat} {g g' : Nat → Rat} (h : FracsTo w B n n g) (e : ∀ i, i < n → g i = g' i) : FracsTo w B n n g' := by
  obtain ⟨f, hr, he⟩ := h
  refine ⟨f, hr, fun i hi => ?_⟩
  obtain ⟨a1, n1, c1, b, a2, n2, c2, e1, hq⟩ := he i hi
  exact ⟨a1, n1, c1, b, a2, n2, c2, e1, fun h => by rw [← e i hi]; exact hq h⟩
theorem oneQ_make : makeQ 1 1 = (1 : Rat) := by decide +kernel
set_option maxRecDepth 100000 in
set_option maxHeartbeats 4000000 in
set_option linter.unusedSimpArgs false in
theorem alone_w {w : World} {n v : Nat} {s b : Int} {q : Rat} (hv : v < n) (hn : n ≤ 1000) (hq : makeQ b 1 = q) (h1 : -9223372036854775808 ≤ b) (h2 : b ≤ 9223372036854775807) :
    Calls Tryz.prog 64 #[.int .i64 (n : Nat), .int .i64 (v : Nat), .int .i64 s, .int .i64 b] w fun e w' => (∃ ar bb a1 n1 c1 a2 n2 c2, e = .returned (.agg #[.slice ar n n, .int .i64 s, .bool bb, .slice a1 n1 c1, .slice a2 n2 c2]) ∧ ListV w' (.slice ar n n) (unitQ n v) ∧ FracV w' (.agg #[.bool bb, .slice a1 n1 c1, .slice a2 n2 c2]) q ∧ ∀ g, (Value.slice ar n n).ownBlock = some g → w.heap.size ≤ g) ∧ Below w.heap.size w w' := by
  obtain ⟨w1, hw1⟩ : ∃ w1, w1 = w.alloc (Obj.cells #[Value.slice none 0 0, Value.int .i64 0, Value.bool false, Value.slice none 0 0, Value.slice none 0 0] 45) := ⟨_, rfl⟩
  have HB1 : Hid (Below w.heap.size w w1) := Lib.hid (by rw [hw1]; exact (Below.refl _ _).alloc (Nat.le_refl _) _)
  have HR1 : Hid (w1.heap[w.heap.size]? = some (.cells #[Value.slice none 0 0, Value.int .i64 0, Value.bool false, Value.slice none 0 0, Value.slice none 0 0] 45 (0, 0))) := Lib.hid (by rw [hw1]; exact heap_alloc_new w _)
  have HW1 := Lib.hid hw1.symm
  have KZ := Lib.hid (fun w' => zerosV_w (w := w') hn)
  have KI := Lib.hid (fun w' => integerN_w (w := w') hq h1 h2)
  obtain ⟨ONE, hONE⟩ : ∃ Q, Q = (1 : Rat) := ⟨_, rfl⟩
  have H1 := Lib.hid hONE
  have K1 := Lib.hid (fun w' => integerN_w (w := w') oneQ_make (by decide) (by decide))
  rw [← hONE] at K1
  clear hw1 hq hONE
  go_enter Tryz.func64, Tryz.ntmps64
  go_wp2_with fail
  rw [HW1.out]
  refine (KZ.out _).mono ?_
  rintro en2 w2 ⟨⟨r2, rfl, hl2, hn2⟩, hb2⟩
  obtain ⟨ar2, hr2⟩ := hl2.form
  rw [List.length_replicate] at hr2
  subst hr2
  obtain ⟨B, hB, hf2⟩ := hl2
  simp only [Value.slice.injEq] at hB
  obtain ⟨rfl, -, -⟩ := hB
  rw [List.length_replicate] at hf2
  have HBG2 : Hid (w1.heap.size ≤ B) := Lib.hid (hn2 B rfl)
  have HL2 := Lib.hid hf2
  have HZ2 := Lib.hid hb2
  clear hf2 hb2 hn2
  go_wp2_with fail
  refine (KI.out _).mono ?_
  rintro en3 w3 ⟨⟨v3, rfl, f3⟩, hb3⟩
  obtain ⟨a3, n3, c3, i3, j3, k3, hq3⟩ := frac_form f3
  subst hq3
  obtain ⟨bq, hbq⟩ : ∃ bq, bq = decide (q.num < 0) := ⟨_, rfl⟩
  rw [← hbq] at f3
  rw [← hbq]
  have HF3 := Lib.hid f3
  have HL3 := Lib.hid (HL2.out.below hb3)
  have HZ3 := Lib.hid (below_trans HZ2.out hb3)
  have HBL3 : Hid (B < w3.heap.size) := Lib.hid HL3.out.lt
  clear hbq f3 hb3
  go_wp2_with ((with_reducible refine at_store ?_); refine wpList_store_var rfl _ _ _ rfl w3.heap.size rfl _ rfl _ _ (heap_alloc_new _ _) irow rfl row_one ?_; intro w4 h4 hon4; refine halt ?_)
  have hb4 : Below w3.heap.size w3 w4 := below_only ((Below.refl _ _).alloc (Nat.le_refl _) _) hon4 (Nat.le_refl _)
  have HX4 := Lib.hid h4
  have RY := Lib.hid (cells_later h4)
  have HL4 := Lib.hid (HL3.out.below hb4)
  have HF4 := Lib.hid (HF3.out.below hb4)
  have HB14 := Lib.hid (below_trans HZ3.out hb4)
  have HW4 := Lib.hid (below_trans HB1.out HB14.out)
  have HBG : Hid (w.heap.size ≤ B) := Lib.hid (Nat.le_trans HB1.out.size HBG2.out)
  have HBG9 : Hid (w.heap.size < B) := Lib.hid (Nat.lt_of_lt_of_le (lt_of_block HR1.out) HBG2.out)
  have HNE : Hid (w3.heap.size ≠ B) := Lib.hid (by have := HBL3.out; omega)
  obtain ⟨BX, hBX⟩ : ∃ x, x = w3.heap.size := ⟨_, rfl⟩
  rw [← hBX] at HX4 RY HNE ⊢
  clear h4 hon4 hb4 hBX
  refine go_on ?_
  have hz : Below w4.heap.size w4 w4.drew := below_drewN (Below.refl _ _) 1
  go_wp2_with fail
  refine wp_region_to 5 (fun w' => w'.cell? ⟨BX, 0, none⟩ = some (.slice (some ⟨B, 0, none⟩) n n)) (by kernel_rfl) (by (try dsimp only); exact RY.out 0 _ rfl _ (by assumption)) (fun hHeld => ?_)
  refine to_take (i := 0) (oi := _) (v := ?_) rfl (by kernel_rfl) (by kernel_rfl) (by kernel_rfl) (fun _ _ _ h => h) (by kernel_rfl) (by decide) (Or.inl ⟨by kernel_rfl, ?_⟩) (by assumption) ?_
  rotate_left
  · intro w hSw
    (try dsimp only at hSw)
    go_simp
    try with_reducible rfl
  try simp only [Act.put, List.getElem_toArray, List.getElem_cons_zero, List.getElem_cons_succ, List.setIfInBounds_toArray, List.set_cons_zero, List.set_cons_succ]
  refine to_take (i := 1) (oi := _) (v := ?_) rfl (by kernel_rfl) (by kernel_rfl) (by kernel_rfl) (fun _ _ _ h => h) (by kernel_rfl) (by decide) (Or.inl ⟨by kernel_rfl, ?_⟩) (by assumption) ?_
  rotate_left
  · intro w hSw
    (try dsimp only at hSw)
    go_simp
    try with_reducible rfl
  try simp only [Act.put, List.getElem_toArray, List.getElem_cons_zero, List.getElem_cons_succ, List.setIfInBounds_toArray, List.set_cons_zero, List.set_cons_succ]
  refine to_take (i := 2) (oi := _) (v := ?_) rfl (by kernel_rfl) (by kernel_rfl) (by kernel_rfl) (fun _ _ _ h => h) (by kernel_rfl) (by decide) (Or.inl ⟨by kernel_rfl, ?_⟩) (by assumption) ?_
  rotate_left
  · intro w hSw
    (try dsimp only at hSw)
    go_simp
    try with_reducible rfl
  try simp only [Act.put, List.getElem_toArray, List.getElem_cons_zero, List.getElem_cons_succ, List.setIfInBounds_toArray, List.set_cons_zero, List.set_cons_succ]
  refine to_ready (rs := [3]) (by kernel_rfl) (by simp) (AllTo.cons (o := _) rfl (fun K hK => ?_) AllTo.nil)
  go_simp
  refine (K1.out _).mono ?_
  rintro en7 w7 ⟨⟨v7, rfl, f7⟩, hb7⟩
  obtain ⟨a7, n7, c7, i7, j7, k7, hq7⟩ := frac_form f7
  subst hq7
  have hz := below_trans hz hb7
  obtain ⟨bu, hbu⟩ : ∃ bu, bu = decide (ONE.num < 0) := ⟨_, rfl⟩
  rw [← hbu] at f7
  rw [← hbu]
  clear hbu
  try go_wp2_with fail
  refine hK.out _ _ (fun _ => ?_) (fun hHeld => ?_)
  · (try dsimp only); exact RY.out 0 _ rfl _ (by assumption)
  replace hHeld := hHeld (by decide)
  clear hK K
  try simp only [Act.put, List.getElem_toArray, List.getElem_cons_zero, List.getElem_cons_succ, List.setIfInBounds_toArray, List.set_cons_zero, List.set_cons_succ]
  refine to_take (i := 4) (oi := _) (v := ?_) rfl (by kernel_rfl) (by kernel_rfl) (by kernel_rfl) (fun _ _ _ h => h) (by kernel_rfl) (by decide) (Or.inl ⟨by kernel_rfl, ?_⟩) (by assumption) ?_
  rotate_left
  · intro w hSw
    (try dsimp only at hSw)
    go_simp
    try with_reducible rfl
  try simp only [Act.put, List.getElem_toArray, List.getElem_cons_zero, List.getElem_cons_succ, List.setIfInBounds_toArray, List.set_cons_zero, List.set_cons_succ]
  refine to_ready (rs := [5]) (by kernel_rfl) (by simp) (AllTo.cons (o := _) rfl (fun K hK => ?_) AllTo.nil)
  rw [if_pos (by kernel_rfl)]
  obtain ⟨f8, hr8, he8⟩ := HL4.out.below hz
  refine oper_store_three _ _ _ rfl B n v rfl _ _ _ rfl _ f8 hr8 hv rfl frac_one ?_
  intro w9 hr9 hon9
  refine hK.out _ _ (fun h => absurd rfl h) (fun _ => ?_)
  clear hK K
  try simp only [Act.put, List.getElem_toArray, List.getElem_cons_zero, List.getElem_cons_succ, List.setIfInBounds_toArray, List.set_cons_zero, List.set_cons_succ]
  refine to_done (by kernel_rfl) ?_ _
  have HL9 := (FracsTo.put hr8 he8 f7 hr9 hon9).congr (g' := nthQ (unitQ n v)) (fun i hi => by rw [unitQ_at hi, nth_rep, H1.out])
  obtain ⟨cc, hc8, hU8⟩ := fracs_cells hr8 (fun i hi => by obtain ⟨a1, n1, c1, b, a2, n2, c2, e, -⟩ := he8 i hi; exact ⟨a1, n1, c1, b, a2, n2, c2, e⟩)
  have HF9 : FracV w9 (.agg #[.bool bq, .slice a3 n3 c3, .slice i3 j3 k3]) q := by
    have h1 := HF4.out.below hz
    obtain ⟨u, d, he, h1, h2⟩ := h1
    exact ⟨u, d, he, h1.other hc8 hU8 hon9, h2.other hc8 hU8 hon9⟩
  have HB9 : Below w.heap.size w w9 := below_only (below_trans HW4.out hz) hon9 HBG.out
  have HX9 := (hon9.block _ HNE.out).trans ((hz.block _ (lt_of_block HX4.out)).trans HX4.out)
  have HR9 := (hon9.block w.heap.size (fun e => by have := HBG9.out; omega)).trans (((below_trans HB14.out hz).block _ (lt_of_block HR1.out)).trans HR1.out)
  have x0 := cells_later HX9 0 _ rfl _ (Below.refl _ _)
  have x1 := cells_later HX9 1 _ rfl _ (Below.refl _ _)
  have x2 := cells_later HX9 2 _ rfl _ (Below.refl _ _)
  have x3 := cells_later HX9 3 _ rfl _ (Below.refl _ _)
  have x4 := cells_later HX9 4 _ rfl _ (Below.refl _ _)
  go_wp2_with ((with_reducible refine at_store ?_); refine wpList_store_var rfl _ _ _ rfl w.heap.size rfl _ rfl _ _ HR9 irow rfl row_one ?_; intro w10 h10 hon10; refine halt ?_)
  refine go_on ?_
  have hu10 : ∀ (j k : Nat), (#[Value.slice none 0 0, Value.int .i64 0, Value.bool false, Value.slice none 0 0, Value.slice none 0 0] : Array Value)[j]? ≠ some (U k) := by
    intro j k h
    rcases j with _ | _ | _ | _ | _ | j <;> simp [U] at h
  have HF10 : FracV w10 (.agg #[.bool bq, .slice a3 n3 c3, .slice i3 j3 k3]) q := by
    obtain ⟨u, d, he, h1, h2⟩ := HF9
    exact ⟨u, d, he, h1.other HR9 hu10 hon10, h2.other HR9 hu10 hon10⟩
  have HL10 : ListV w10 (.slice (some ⟨B, 0, none⟩) n n) (unitQ n v) := ListV.other ⟨B, by rw [unitQ_len], by rw [unitQ_len]; exact HL9⟩ HR9 hu10 hon10 (fun g hg => by have h9 : some B = some g := hg; have := Option.some.inj h9; have := HBG9.out; omega)
  clear x0 x1 x2 x3 x4
  go_wp2_with fail
  exact bodyPost_ret (results_cell_row rfl _ _ w.heap.size _ _ _ _ rfl h10 Tryz.underlying45 rfl irow) rfl ⟨⟨_, _, _, _, _, _, _, _, rfl, HL10, HF10, fun g hg => by have h9 : some B = some g := hg; have := Option.some.inj h9; have := HBG9.out; omega⟩, below_only HB9 hon10 (Nat.le_refl _)⟩
end Go.Proofs.YtafenoohjcpjgaaGreat
