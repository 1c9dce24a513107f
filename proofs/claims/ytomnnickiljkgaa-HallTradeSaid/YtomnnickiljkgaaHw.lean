/- What the statements use: small, with, SameInts. -/
import Derived.Test.YtomnnickiljkgaaHv
namespace Go.Proofs.Ytomnnickiljkgaa
open Go.RowKit
attribute [local go_sem ↓] Go.wp_at_zero Go.wp_at_succ

set_option maxRecDepth 8000 in
set_option maxHeartbeats 4000000 in
theorem small_w {w : World} {m c : Nat} {a : Option Addr} {L : List (List Int)} (h : RowsF w a L) (hm : m = L.length) (hm9 : m ≤ 9223372036854775807) :
    Calls Try.prog 9 #[.slice a m c] w fun e w' => (∃ b, e = .returned (.bool b) ∧ (b = true → SmallL L)) ∧ w = w' := by
  have HI := Lib.hid h
  have HM := Lib.hid hm
  clear h hm
  go_enter Try.func9, Try.ntmps9
  go_wp2_with fail
  go_loopw [3] (fun iv wr => ∃ i : Nat, i ≤ m ∧ iv = .int .i64 i ∧ wr = w ∧ Hid (∀ j, j < i → (nthL L j).length ≤ 12)) (fun iv _ => m - (intOf iv).toNat)
  case atStart => exact ⟨0, Nat.zero_le _, rfl, rfl, Lib.hid (fun j hj => absurd hj (Nat.not_lt_zero _))⟩
  case round =>
    obtain ⟨i, hi, rfl, rfl, hok⟩ := hrel
    by_cases hin : i < m
    · have t0 : decide ((i : Int) < (m : Int)) = true := by simp; omega
      obtain ⟨B, off, a', c', ha, -, -, hl9, hc⟩ := HI.out.at (i := i) (by have := HM.out; omega)
      subst ha
      have e1 := hc _ (Below.refl _ _)
      obtain ⟨ln, hln⟩ : ∃ ln, ln = (nthL L i).length := ⟨_, rfl⟩
      have HLN := Lib.hid hln
      rw [← hln] at e1 hl9
      clear hc hln
      by_cases hl : ln > 12
      · have t1 : decide ((12 : Int) < (ln : Int)) = true := by simp; omega
        have t2 : decide ((ln : Int) > 12) = true := by simp; omega
        go_wp2_with fail
        go_ret
        exact ⟨⟨false, rfl, fun e => by cases e⟩, rfl⟩
      · have t1 : decide ((12 : Int) < (ln : Int)) = false := by simp; omega
        have t2 : decide ((ln : Int) > 12) = false := by simp; omega
        have HOK9 : Hid (∀ j, j < i + 1 → (nthL L j).length ≤ 12) := Lib.hid (fun j hj => by
          by_cases hji : j = i
          · rw [hji, ← HLN.out]; omega
          · exact hok.out j (by omega))
        go_wp2_with fail
        go_roundw
        case rel => exact ⟨i + 1, by omega, by go_num, by first | rfl | trivial, HOK9⟩
        case measure => simp [intOf]; omega
    · have t0 : decide ((i : Int) < (m : Int)) = false := by simp; omega
      have HS : Hid (m ≤ 12 → SmallL L) := Lib.hid (fun h => ⟨by have := HM.out; omega, fun l hl => by
        obtain ⟨j, hj⟩ := List.getElem?_of_mem hl
        have h9 := hok.out j (by have := (List.getElem?_eq_some_iff.1 hj).1; have := HM.out; omega)
        rwa [nthL_some hj] at h9⟩)
      by_cases hm12 : m ≤ 12
      · have t1 : decide ((m : Int) ≤ 12) = true := by simp; omega
        go_wp2_with fail
        go_ret
        exact ⟨⟨true, by first | rfl | simp [t1], fun _ => HS.out hm12⟩, rfl⟩
      · have t1 : decide ((m : Int) ≤ 12) = false := by simp; omega
        go_wp2_with fail
        go_ret
        exact ⟨⟨false, by first | rfl | simp [t1], fun e => by cases e⟩, rfl⟩
set_option maxRecDepth 8000 in
set_option maxHeartbeats 4000000 in
theorem sameInts_w {w : World} {m c n d : Nat} {a b : Option Addr} {l k : List Int} (h : IntsF w a l) (hm : m = l.length) (hm9 : m ≤ 1000) (h2 : IntsF w b k) (hn : n = k.length) :
    Calls Try.prog 14 #[.slice a m c, .slice b n d] w fun e w' => e = .returned (.bool (decide (l = k))) ∧ Below w.heap.size w w' := by
  have HI := Lib.hid h
  have HK := Lib.hid h2
  have HM := Lib.hid hm
  have HN := Lib.hid hn
  obtain ⟨ob, hob⟩ : ∃ ob, ob = decide (l = k) := ⟨_, rfl⟩
  have HOB := Lib.hid hob
  rw [← hob]
  clear h hm h2 hn hob
  by_cases hmn : m = n
  rotate_left
  · have u1 : ((m : Int) == (n : Int)) = false := by simp; omega
    have u2 : ((m : Int) != (n : Int)) = true := by simp; omega
    have HE : Hid (false = ob) := Lib.hid (by
      rw [HOB.out]
      have : ¬ l = k := fun e => hmn (by rw [HM.out, HN.out, e])
      simp [this])
    go_enter Try.func14, Try.ntmps14
    go_wp2_with fail
    go_ret
    exact ⟨by rw [← HE.out]; rfl, Below.refl _ _⟩
  subst hmn
  go_enter Try.func14, Try.ntmps14
  go_wp2_with fail
  go_loopw [5] (fun iv wr => ∃ i : Nat, i ≤ m ∧ iv = .int .i64 i ∧ Hid (Below w.heap.size w wr) ∧ Hid (∀ j, j < i → l[j]? = k[j]?)) (fun iv _ => m - (intOf iv).toNat)
  case atStart => exact ⟨0, Nat.zero_le _, rfl, Lib.hid (Below.refl _ _), Lib.hid (fun j hj => absurd hj (Nat.not_lt_zero _))⟩
  case round =>
    obtain ⟨i, hi, rfl, hZ, hok⟩ := hrel
    obtain ⟨wo, rfl⟩ : ∃ wo : World, wo = wr := ⟨_, rfl⟩
    by_cases hin : i < m
    · have t0 : decide ((i : Int) < (m : Int)) = true := by simp; omega
      obtain ⟨y, B, off, hy, ha, -, hc⟩ := HI.out.at (i := i) (by have := HM.out; omega)
      obtain ⟨z, B2, off2, hz, hb, -, hc2⟩ := HK.out.at (i := i) (by have := HN.out; omega)
      subst ha hb
      have e1 := hc wo hZ.out
      have e2 := hc2 wo hZ.out
      have HLY := Lib.hid hy
      have HLZ := Lib.hid hz
      clear hc hc2 hy hz
      by_cases hyz : y = z
      · subst hyz
        have HOK9 : Hid (∀ j, j < i + 1 → l[j]? = k[j]?) := Lib.hid (fun j hj => by
          by_cases hji : j = i
          · rw [hji, HLY.out, HLZ.out]
          · exact hok.out j (by omega))
        go_wp2_with fail
        go_quiet (fail)
        have HZ9 : Hid (Below w.heap.size w (wo.drewN nq)) := Lib.hid (below_drewN hZ.out _)
        go_wp2_with fail
        go_roundw
        case rel => exact ⟨i + 1, by omega, by go_num, HZ9, HOK9⟩
        case measure => simp [intOf]; omega
      · have u1 : (y == z) = false := by simpa using hyz
        have u2 : (y != z) = true := by simpa using hyz
        have HE : Hid (false = ob) := Lib.hid (by
          rw [HOB.out]
          have : ¬ l = k := fun e => by
            have h1 := HLY.out
            rw [e, HLZ.out] at h1
            exact hyz (Option.some.inj h1).symm
          simp [this])
        go_wp2_with fail
        go_quiet (fail)
        have HZ9 : Hid (Below w.heap.size w (wo.drewN nq)) := Lib.hid (below_drewN hZ.out _)
        go_wp2_with fail
        go_ret
        exact ⟨by rw [← HE.out]; rfl, HZ9.out⟩
    · have t0 : decide ((i : Int) < (m : Int)) = false := by simp; omega
      have HE : Hid (true = ob) := Lib.hid (by
        rw [HOB.out]
        have : l = k := by
          apply List.ext_getElem?
          intro j
          by_cases hj : j < i
          · exact hok.out j hj
          · rw [List.getElem?_eq_none (by have := HM.out; omega), List.getElem?_eq_none (by have := HN.out; omega)]
        simp [this])
      go_wp2_with fail
      go_ret
      exact ⟨by rw [← HE.out]; rfl, hZ.out⟩

theorem info_row9 : (Try.prog.info? 23).map (fun i => (i.zero, i.size, i.bytes)) = some (some (.slice none 0 0), 1, 24) := by kernel_rfl
/-- A list of lists of the call's own, whose lists lie in older memory. -/
def LSo (w0 w : World) (base : Nat) (v : Value) (L : List (List Int)) : Prop :=
  ∃ vs : List Value, vs.length = L.length ∧ w.ownsRow base 23 1 v L.length vs ∧ ∀ (j : Nat) (l : List Int), L[j]? = some l → ∃ a c, vs[j]? = some (Value.slice a l.length c) ∧ IntsF w0 a l ∧ l.length ≤ c ∧ l.length ≤ 9223372036854775807
theorem LSo.nil (w0 w : World) (base : Nat) : LSo w0 w base (.slice none 0 0) [] := ⟨[], rfl, World.ownsRow_nil w base _ 1, fun j l h => by simp at h⟩
theorem LSo.below {w0 w w' : World} {base : Nat} {v : Value} {L : List (List Int)} (h : LSo w0 w base v L) (hb : Below w.heap.size w w') : LSo w0 w' base v L := by
  obtain ⟨vs, h1, h2, h3⟩ := h
  refine ⟨vs, h1, World.ownsRow.kept (row := none) h2 ⟨hb.os, hb.tape, hb.output, hb.size, fun k hk _ => hb.block k hk⟩ (by cases hv : v.ownBlock <;> simp), h3⟩
theorem LSo.form {w0 w : World} {base : Nat} {v : Value} {L : List (List Int)} (h : LSo w0 w base v L) : ∃ a c, v = .slice a L.length c := by
  obtain ⟨vs, h1, h2, h3⟩ := h
  rcases h2.2 with ⟨rfl, h0⟩ | ⟨g, cap, cur, rfl, -⟩
  · exact ⟨none, 0, by rw [h0]⟩
  · exact ⟨_, _, rfl⟩
theorem LSo.rows {w0 w : World} {base n c : Nat} {a : Option Addr} {L : List (List Int)} (h : LSo w0 w base (.slice a n c) L) (hb : Below w0.heap.size w0 w) : RowsF w a L := fun i l hl => by
  obtain ⟨vs, h1, h2, h3⟩ := h
  obtain ⟨a', c', h4, h5, h6, h7⟩ := h3 i l hl
  have hlt := (List.getElem?_eq_some_iff.1 hl).1
  have hcells := fun g hg => World.ownsRow.cells h2 (g := g) hg
  rcases h2.2 with ⟨h0, h9⟩ | ⟨g, cap, cur, hv, -⟩
  · omega
  · simp only [Value.slice.injEq] at hv
    obtain ⟨rfl, -, -⟩ := hv
    have k0 := hcells g rfl i _ h4
    rw [Addr.add_lit] at k0
    exact ⟨g, 0, a', c', rfl, k0, h5.below hb, h6, h7⟩
theorem wpList_push_row {w0 w : World} {ops : Array Oper} {rest : List Oper} {o : Oper} {a : Act} {Q : Exit → Act → World → Prop} (hgd : o.guard = none) (s x : Operand)
    (ho : o.op = .call { callee := .builtin .append, args := #[s, x], argTypes := #[22, 22] }) (base : Nat) (v : Value) (L : List (List Int)) (hs : a.eval s = v) (hown : LSo w0 w base v L)
    (g cc ba bc : Nat) (ad : Option Addr) (l : List Int) (hba : ba = l.length) (hI : IntsF w0 ad l) (hlc : l.length ≤ bc) (hl9 : l.length ≤ 9223372036854775807) (hx : a.eval x = .slice (some ⟨g, 0, none⟩) 1 cc) (hrow : w.heap[g]? = some (.cells #[Value.slice ad ba bc] 23 (0, 0))) (hlen : L.length ≤ 1000000) (hbase : base ≤ w.heap.size)
    (h : ∀ v' w', LSo w0 w' base v' (L ++ [l]) → (∀ W, Below base W w → Below base W w') → wpList Try.prog ops Q rest (a.put o.dst v') w') :
    wpList Try.prog ops Q (o :: rest) a w := by
  obtain ⟨i0, hi0, hz0, hz1, hz2⟩ := info_parts info_row9
  obtain ⟨vs, h1, h2, h3⟩ := hown
  have hlt := fun g hg => World.ownsRow.lt h2 g hg
  refine wpList_append_own w hgd s x 22 ho base 23 i0 (.slice none 0 0) 1 24 Try.underlying22 hi0 hz0 hz1 hz2 rfl (by decide) v L.length vs hs h2 ⟨g, 0, none⟩ 1 cc [Value.slice ad ba bc] hx rfl (by
      intro j u hu
      rw [Addr.add_lit, cell_of_row _ _ _ _ _ _ hrow]
      simpa using hu) (by intro u hu; simp at hu; rcases hu with rfl; rfl) (by unfold maxLen; omega) (by omega) hbase ?_
  intro v' w' h4 h5 _
  refine h v' w' ⟨vs ++ [Value.slice ad ba bc], by simp [h1], by rw [List.length_append]; exact h4, fun j k hk => ?_⟩ ?_
  · by_cases hj : j < L.length
    · rw [List.getElem?_append_left hj] at hk
      obtain ⟨a', c', k1, k2⟩ := h3 j k hk
      exact ⟨a', c', by rw [List.getElem?_append_left (by rw [h1]; exact hj)]; exact k1, k2⟩
    · have hjl : j = L.length := by
        have := (List.getElem?_eq_some_iff.1 hk).1
        rw [List.length_append, List.length_singleton] at this
        omega
      subst hjl
      simp at hk
      subst hk
      exact ⟨ad, bc, by rw [← h1]; simp [hba], hI, hlc, hl9⟩
  · intro W hW
    exact hW.grown h5 hbase (fun k hk => (hlt k hk).1)
set_option maxRecDepth 8000 in
set_option maxHeartbeats 4000000 in
theorem with_w {w : World} {m c n d i : Nat} {a b : Option Addr} {L : List (List Int)} {l : List Int} (h : RowsF w a L) (hs : L.length ≤ 12) (hm : m = L.length) (h2 : IntsF w b l) (hn : n = l.length) (hnd : n ≤ d) (hn9 : n ≤ 9223372036854775807) :
    Calls Try.prog 18 #[.slice a m c, .int .i64 (i : Nat), .slice b n d] w fun e w' => (∃ va vc, e = .returned (.slice va m vc) ∧ RowsF w' va (L.set i l)) ∧ Below w.heap.size w w' := by
  have HI := Lib.hid h
  have HK := Lib.hid h2
  have HM := Lib.hid hm
  have HN := Lib.hid hn
  have hm12 : m ≤ 12 := by omega
  clear h hm h2 hn hs
  go_enter Try.func18, Try.ntmps18
  go_wp2_with fail
  go_loopw [7, 8] (fun vv iv wr => ∃ k : Nat, k ≤ m ∧ iv = .int .i64 k ∧ Hid (LSo w wr w.heap.size vv ((L.set i l).take k)) ∧ Hid (Below w.heap.size w wr)) (fun _ iv _ => m - (intOf iv).toNat)
  case atStart => exact ⟨0, Nat.zero_le _, rfl, Lib.hid (LSo.nil _ _ _), Lib.hid (Below.refl _ _)⟩
  case round =>
    obtain ⟨k, hk, rfl, hL, hZ⟩ := hrel
    obtain ⟨wo, rfl⟩ : ∃ wo : World, wo = wr := ⟨_, rfl⟩
    by_cases hkm : k < m
    · have t0 : decide ((k : Int) < (m : Int)) = true := by simp; omega
      by_cases hki : k = i
      · subst hki
        have HTK : Hid ((L.set k l).take (k + 1) = (L.set k l).take k ++ [l]) := Lib.hid (by
          have h1 : (L.set k l)[k]? = some l := List.getElem?_set_self (by have := HM.out; omega)
          obtain ⟨hi, h9⟩ := List.getElem?_eq_some_iff.1 h1
          rw [List.take_succ_eq_append_getElem hi, h9])
        have HL1 : Hid (LSo w (wo.alloc (Obj.cells #[Value.slice b n d] 23)) w.heap.size u7 ((L.set k l).take k)) := Lib.hid (hL.out.below ((Below.refl _ _).alloc (Nat.le_refl _) _))
        have HZ1 : Hid (Below w.heap.size w (wo.alloc (Obj.cells #[Value.slice b n d] 23))) := Lib.hid (hZ.out.alloc hZ.out.size _)
        go_wp2_with ((with_reducible refine at_append ?_); refine wpList_push_row rfl (.tmp 18) (.tmp 20) rfl w.heap.size u7 ((L.set k l).take k) rfl HL1.out wo.heap.size 1 n d b l HN.out HK.out (by have := HN.out; omega) (by have := HN.out; omega) rfl (heap_alloc_new _ _) (by rw [List.length_take]; omega) HZ1.out.size ?_; intro v2 w2 h1 h2; refine halt ?_)
        refine go_on ?_
        have HL9 : Hid (LSo w w2 w.heap.size v2 ((L.set k l).take (k + 1))) := Lib.hid (by rw [HTK.out]; exact h1)
        have HZ9 : Hid (Below w.heap.size w w2) := Lib.hid (h2 _ HZ1.out)
        clear h1 h2 HL1 HZ1 hL hZ
        go_wp2_with fail
        go_roundw
        case rel => exact ⟨k + 1, by omega, by go_num, HL9, HZ9⟩
        case measure => simp [intOf]; omega
      · have u1 : ((k : Int) == (i : Int)) = false := by simp; omega
        obtain ⟨B, off, a', c', ha, hI, hlc, hl9, hc⟩ := HI.out.at (i := k) (by have := HM.out; omega)
        subst ha
        have e1 := hc wo hZ.out
        have HTK : Hid ((L.set i l).take (k + 1) = (L.set i l).take k ++ [nthL L k]) := Lib.hid (by
          have h1 : (L.set i l)[k]? = some (nthL L k) := by rw [List.getElem?_set_ne (fun e => hki e.symm)]; exact nthL_get (by have := HM.out; omega)
          obtain ⟨hi, h9⟩ := List.getElem?_eq_some_iff.1 h1
          rw [List.take_succ_eq_append_getElem hi, h9])
        have HIK := Lib.hid hI
        obtain ⟨ln, hln⟩ : ∃ ln, ln = (nthL L k).length := ⟨_, rfl⟩
        have HLN := Lib.hid hln
        rw [← hln] at e1 hlc hl9
        have HL1 : Hid (LSo w (wo.alloc (Obj.cells #[Value.slice a' ln c'] 23)) w.heap.size u7 ((L.set i l).take k)) := Lib.hid (hL.out.below ((Below.refl _ _).alloc (Nat.le_refl _) _))
        have HZ1 : Hid (Below w.heap.size w (wo.alloc (Obj.cells #[Value.slice a' ln c'] 23))) := Lib.hid (hZ.out.alloc hZ.out.size _)
        clear hI hc hln
        go_wp2_with ((with_reducible refine at_append ?_); refine wpList_push_row rfl (.tmp 22) (.tmp 27) rfl w.heap.size u7 ((L.set i l).take k) rfl HL1.out wo.heap.size 1 ln c' a' (nthL L k) HLN.out HIK.out (by rw [← HLN.out]; exact hlc) (by rw [← HLN.out]; exact hl9) rfl (heap_alloc_new _ _) (by rw [List.length_take]; omega) HZ1.out.size ?_; intro v2 w2 h1 h2; refine halt ?_)
        refine go_on ?_
        have HL9 : Hid (LSo w w2 w.heap.size v2 ((L.set i l).take (k + 1))) := Lib.hid (by rw [HTK.out]; exact h1)
        have HZ9 : Hid (Below w.heap.size w w2) := Lib.hid (h2 _ HZ1.out)
        clear h1 h2 HL1 HZ1 hL hZ e1
        go_wp2_with fail
        go_roundw
        case rel => exact ⟨k + 1, by omega, by go_num, HL9, HZ9⟩
        case measure => simp [intOf]; omega
    · have t0 : decide ((k : Int) < (m : Int)) = false := by simp; omega
      have HL9 : Hid (LSo w wo w.heap.size u7 (L.set i l)) := Lib.hid (by
        have := hL.out
        rwa [List.take_of_length_le (by rw [List.length_set]; have := HM.out; omega)] at this)
      obtain ⟨av, cv, rfl⟩ := HL9.out.form
      go_wp2_with fail
      go_ret
      exact ⟨⟨av, cv, by rw [List.length_set, ← HM.out]; rfl, HL9.out.rows hZ.out⟩, hZ.out⟩
end Go.Proofs.Ytomnnickiljkgaa
