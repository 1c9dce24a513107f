/- Is a list a matching? -/
import Derived.Test.YtomnnickiljkgaaHi
import Derived.Test.YtomnnickiljkgaaHs
import Derived.Laws.AppendOwn
namespace Go.Proofs.Ytomnnickiljkgaa
open Go.RowKit
attribute [local go_sem ↓] Go.wp_at_zero Go.wp_at_succ

/-- A list of numbers of the machine of the call's own. -/
def LIo (w : World) (base : Nat) (v : Value) (zs : List Int) : Prop := w.ownsRow base 3 1 v zs.length (zs.map (Value.int .i64))
theorem LIo.nil (w : World) (base : Nat) : LIo w base (.slice none 0 0) [] := World.ownsRow_nil w base _ 1
theorem LIo.lt {w : World} {base : Nat} {v : Value} {zs : List Int} (h : LIo w base v zs) : ∀ g, v.ownBlock = some g → base ≤ g ∧ g < w.heap.size := fun g hg => World.ownsRow.lt h g hg
theorem LIo.form {w : World} {base : Nat} {v : Value} {zs : List Int} (h : LIo w base v zs) : ∃ a c, v = .slice a zs.length c := by
  rcases h.2 with ⟨rfl, h0⟩ | ⟨g, cap, cur, rfl, -⟩
  · exact ⟨none, 0, by rw [h0]⟩
  · exact ⟨_, _, rfl⟩
theorem LIo.keep {w w' : World} {base : Nat} {v : Value} {zs : List Int} {row : Option Nat} (h : LIo w base v zs) (hg : w.grownBy w' row) (hne : ∀ g, v.ownBlock = some g → row ≠ some g) : LIo w' base v zs :=
  World.ownsRow.kept (row := row) h hg (by
    cases hv : v.ownBlock with
    | none => simp
    | some g => exact Or.inr (fun e => hne g hv e.symm))
theorem LIo.below {w w' : World} {base : Nat} {v : Value} {zs : List Int} (h : LIo w base v zs) (hb : Below w.heap.size w w') : LIo w' base v zs :=
  h.keep (row := none) ⟨hb.os, hb.tape, hb.output, hb.size, fun k hk _ => hb.block k hk⟩ (fun _ _ e => by cases e)
theorem LIo.ints {w : World} {base n c : Nat} {a : Option Addr} {zs : List Int} (h : LIo w base (.slice a n c) zs) (hr : ∀ z ∈ zs, -9223372036854775808 ≤ z ∧ z ≤ 9223372036854775807) : IntsF w a zs := fun i z hi => by
  have hlt : i < zs.length := (List.getElem?_eq_some_iff.1 hi).1
  have hcells := fun g hg => World.ownsRow.cells h (g := g) hg
  rcases h.2 with ⟨h0, h1⟩ | ⟨g, cap, cur, hv, -⟩
  · omega
  · simp only [Value.slice.injEq] at hv
    obtain ⟨rfl, -, -⟩ := hv
    have k0 := hcells g rfl i (.int .i64 z) (by rw [List.getElem?_map, hi]; rfl)
    rw [Addr.add_lit] at k0
    exact ⟨g, 0, rfl, k0, hr z (List.mem_of_getElem? hi)⟩
/-- A guard: the next operation is an append. -/
theorem at_append {P : Program} {w : World} {ops : Array Oper} {rest : List Oper} {dst : Option Tmp} {type : TypeId} {pos : String} {after : Array Edge} {guard : Option (Nat × Bool)} {args : Array Operand} {ts : Array TypeId} {a : Act} {Q : Exit → Act → World → Prop}
    (h : wpList P ops Q (⟨dst, .call { callee := .builtin .append, args := args, argTypes := ts }, type, pos, after, guard⟩ :: rest) a w) : wpList P ops Q (⟨dst, .call { callee := .builtin .append, args := args, argTypes := ts }, type, pos, after, guard⟩ :: rest) a w := h
theorem wpList_push_int {w : World} {ops : Array Oper} {rest : List Oper} {o : Oper} {a : Act} {Q : Exit → Act → World → Prop} (hgd : o.guard = none) (s x : Operand)
    (ho : o.op = .call { callee := .builtin .append, args := #[s, x], argTypes := #[23, 23] }) (base : Nat) (v : Value) (zs : List Int) (hs : a.eval s = v) (hown : LIo w base v zs)
    (g cc : Nat) (b : Int) (hx : a.eval x = .slice (some ⟨g, 0, none⟩) 1 cc) (hrow : w.heap[g]? = some (.cells #[Value.int .i64 b] 3 (0, 0))) (hlen : zs.length ≤ 1000000) (hbase : base ≤ w.heap.size)
    (h : ∀ v' w', LIo w' base v' (zs ++ [b]) → w.grownBy w' v.ownBlock → (∀ W, Below base W w → Below base W w') → wpList Try.prog ops Q rest (a.put o.dst v') w') :
    wpList Try.prog ops Q (o :: rest) a w := by
  obtain ⟨i0, hi0, hz0, hz1, hz2⟩ := info_parts info_int9
  have hlt := hown.lt
  refine wpList_append_own w hgd s x 23 ho base 3 i0 (.int .i64 0) 1 8 Try.underlying23 hi0 hz0 hz1 hz2 rfl (by decide) v zs.length (zs.map (Value.int .i64)) hs hown ⟨g, 0, none⟩ 1 cc [Value.int .i64 b] hx rfl (by
      intro j u hu
      rw [Addr.add_lit, cell_of_row _ _ _ _ _ _ hrow]
      simpa using hu) (by intro u hu; simp at hu; rcases hu with rfl; rfl) (by unfold maxLen; omega) (by omega) hbase ?_
  intro v' w' h2 h3 _
  refine h v' w' (by unfold LIo; rw [List.length_append, List.map_append]; exact h2) h3 ?_
  intro W hW
  exact hW.grown h3 hbase (fun k hk => (hlt k hk).1)

/-- Is entry number i of a list nobody, or a new one of n? -/
def okM (n : Nat) (l : List Int) (i : Nat) : Bool := match l[i]? with
  | some v => decide (v = -1) || (decide (0 ≤ v ∧ v < (n : Int)) && !(l.take i).contains v)
  | none => true
theorem okM_of {n : Nat} {l : List Int} {i : Nat} {v : Int} (hv : l[i]? = some v) : okM n l i = (decide (v = -1) || (decide (0 ≤ v ∧ v < (n : Int)) && !(l.take i).contains v)) := by
  unfold okM
  rw [hv]
def someL (l : List Int) : List Int := l.filter (fun z => z != -1)
def matQ (np nr : Nat) (l : List Int) : Bool := decide (l.length = np) && listedQ nr (someL l)
theorem mem_someL {l : List Int} {z : Int} : z ∈ someL l ↔ z ∈ l ∧ z ≠ -1 := by unfold someL; rw [List.mem_filter]; simp
theorem someL_listed {n : Nat} {l : List Int} : listedQ n (someL l) = true ↔ ∀ i, i < l.length → okM n l i = true := by
  rw [listed_iff]
  constructor
  · rintro ⟨h1, h2⟩ i hi
    have hv : l[i]? = some l[i] := List.getElem?_eq_getElem hi
    rw [okM_of hv]
    by_cases e : l[i] = -1
    · simp [e]
    · have h3 := h2 _ (mem_someL.2 ⟨List.getElem_mem hi, e⟩)
      have h4 : (l.take i).contains l[i] = false := by
        cases hc : (l.take i).contains l[i] with
        | false => rfl
        | true =>
          exfalso
          obtain ⟨j, hj⟩ := List.getElem?_of_mem (List.contains_iff_mem.1 hc)
          rw [List.getElem?_take] at hj
          split at hj
          · rename_i hlt
            obtain ⟨hj1, hj2⟩ := List.getElem?_eq_some_iff.1 hj
            unfold List.Nodup someL at h1
            rw [List.pairwise_filter, List.pairwise_iff_getElem] at h1
            exact h1 j i hj1 hi hlt (by simpa [hj2] using e) (by simpa using e) hj2
          · cases hj
      rw [h4]
      simp [h3]
  · intro h
    refine ⟨?_, fun x hx => ?_⟩
    · unfold List.Nodup someL
      rw [List.pairwise_filter, List.pairwise_iff_getElem]
      intro i j hi hj hij hpi hpj he
      have h1 := h j hj
      rw [okM_of (List.getElem?_eq_getElem hj)] at h1
      have h2 : (l.take j).contains l[j] = true := List.contains_iff_mem.2 (mem_take_lt hij (by rw [List.getElem?_eq_getElem hi, he]))
      rw [h2] at h1
      simp at h1 hpj
      exact hpj h1
    · obtain ⟨hx, hne⟩ := mem_someL.1 hx
      obtain ⟨i, hi⟩ := List.getElem?_of_mem hx
      have h1 := h i (List.getElem?_eq_some_iff.1 hi).1
      rw [okM_of hi] at h1
      simp only [Bool.or_eq_true, Bool.and_eq_true, decide_eq_true_eq] at h1
      rcases h1 with h1 | h1
      · exact absurd h1 hne
      · exact h1.1
theorem matQ_yes {np nr : Nat} {l : List Int} (hl : l.length = np) (h : ∀ i, i < l.length → okM nr l i = true) : matQ np nr l = true := by
  unfold matQ
  rw [someL_listed.2 h]
  simpa using hl
theorem matQ_no {np nr : Nat} {l : List Int} {i : Nat} (hi : i < l.length) (h : okM nr l i = false) : matQ np nr l = false := by
  unfold matQ
  have : listedQ nr (someL l) = false := by
    cases hh : listedQ nr (someL l) with
    | false => rfl
    | true => have := someL_listed.1 hh i hi; rw [h] at this; cases this
  rw [this, Bool.and_false]

set_option maxRecDepth 8000 in
set_option maxHeartbeats 4000000 in
theorem isMatching_w {w : World} {np nr m c : Nat} {a : Option Addr} {l : List Int} (h : IntsF w a l) (hm : m = l.length) (hm9 : m ≤ 12) (hn : nr ≤ 8) :
    Calls Try.prog 34 #[.slice a m c, .int .i64 (np : Nat), .int .i64 (nr : Nat)] w fun e w' => e = .returned (.bool (matQ np nr l)) ∧ Below w.heap.size w w' := by
  have HI := Lib.hid h
  have HM := Lib.hid hm
  clear h hm
  go_enter Try.func34, Try.ntmps34
  go_wp2_with fail
  go_loopw [7, 12] (fun vv iv wr => ∃ i : Nat, i ≤ m ∧ iv = .int .i64 i ∧ Hid (LIo wr w.heap.size vv (someL (l.take i))) ∧ Hid (Below w.heap.size w wr)) (fun _ iv _ => m - (intOf iv).toNat)
  case atStart => exact ⟨0, Nat.zero_le _, rfl, Lib.hid (LIo.nil _ _), Lib.hid (Below.refl _ _)⟩
  case round =>
    obtain ⟨i, hi, rfl, hL, hZ⟩ := hrel
    obtain ⟨wo, rfl⟩ : ∃ wo : World, wo = wr := ⟨_, rfl⟩
    by_cases hin : i < m
    · have t0 : decide ((i : Int) < (m : Int)) = true := by simp; omega
      obtain ⟨z, B, off, hz, ha, hzb, hc⟩ := HI.out.at (i := i) (by have := HM.out; omega)
      subst ha
      have e1 := hc wo hZ.out
      have HLZ := Lib.hid hz
      clear hc hz hzb
      by_cases hzn : z = -1
      · subst hzn
        have HL9 : Hid (LIo wo w.heap.size u7 (someL (l.take (i + 1)))) := Lib.hid (by
          rw [take_has HLZ.out]
          have : someL (l.take i ++ [-1]) = someL (l.take i) := by unfold someL; rw [List.filter_append]; simp
          rw [this]; exact hL.out)
        go_wp2_with fail
        go_roundw
        case rel => exact ⟨i + 1, by omega, by go_num, HL9, hZ⟩
        case measure => simp [intOf]; omega
      · have t1 : (z == -1) = false := by simpa using hzn
        have t2 : (z != -1) = true := by simpa using hzn
        have HL1 : Hid (LIo (wo.alloc (Obj.cells #[Value.int .i64 z] 3)) w.heap.size u7 (someL (l.take i))) := Lib.hid (hL.out.below ((Below.refl _ _).alloc (Nat.le_refl _) _))
        have HZ1 : Hid (Below w.heap.size w (wo.alloc (Obj.cells #[Value.int .i64 z] 3))) := Lib.hid (hZ.out.alloc hZ.out.size _)
        have HSL : Hid ((someL (l.take i)).length ≤ 1000000) := Lib.hid (by
          have h1 := List.length_filter_le (fun z => z != (-1 : Int)) (l.take i)
          unfold someL
          rw [List.length_take] at h1
          omega)
        go_wp2_with ((with_reducible refine at_append ?_); refine wpList_push_int rfl (.tmp 18) (.tmp 20) rfl w.heap.size u7 (someL (l.take i)) rfl HL1.out wo.heap.size 1 z rfl (heap_alloc_new _ _) HSL.out HZ1.out.size ?_; intro v2 w2 h1 h2 h3; refine halt ?_)
        refine go_on ?_
        have HL9 : Hid (LIo w2 w.heap.size v2 (someL (l.take (i + 1)))) := Lib.hid (by
          rw [take_has HLZ.out]
          have : someL (l.take i ++ [z]) = someL (l.take i) ++ [z] := by unfold someL; rw [List.filter_append]; simp [hzn]
          rw [this]; exact h1)
        have HZ9 : Hid (Below w.heap.size w w2) := Lib.hid (h3 _ HZ1.out)
        clear h1 h2 h3 HL1 HZ1 hL hZ HSL
        go_wp2_with fail
        go_roundw
        case rel => exact ⟨i + 1, by omega, by go_num, HL9, HZ9⟩
        case measure => simp [intOf]; omega
    · have t0 : decide ((i : Int) < (m : Int)) = false := by simp; omega
      have HL9 : Hid (LIo wo w.heap.size u7 (someL l)) := Lib.hid (by
        have := hL.out
        rwa [List.take_of_length_le (by have := HM.out; omega)] at this)
      obtain ⟨av, cv, rfl⟩ := HL9.out.form
      have HSL : Hid ((someL l).length ≤ 12) := Lib.hid (by
        have h1 := List.length_filter_le (fun z => z != (-1 : Int)) l
        unfold someL
        have := HM.out
        omega)
      have KR := Lib.hid (right_w (n := nr) (c := cv) (HL9.out.ints (fun z hz => HI.out.wide (mem_someL.1 hz).1)) rfl hn (by have := HSL.out; omega))
      obtain ⟨rb, hrb⟩ : ∃ rb, rb = listedQ nr (someL l) := ⟨_, rfl⟩
      obtain ⟨ln, hln⟩ : ∃ ln, ln = (someL l).length := ⟨_, rfl⟩
      have HE : Hid (matQ np nr l = (decide (m = np) && rb)) := Lib.hid (by unfold matQ; rw [hrb, ← HM.out])
      rw [← hrb, ← hln] at KR
      rw [← hln]
      clear hrb hln hL HSL
      by_cases hmn : m = np
      · subst hmn
        go_wp2_with fail
        refine KR.out.mono ?_
        rintro en2 w2 ⟨rfl, hb2⟩
        have HZ9 := Lib.hid (below_trans hZ.out hb2)
        clear hb2
        go_wp2_with fail
        go_ret
        exact ⟨by rw [HE.out]; simp, HZ9.out⟩
      · have u1 : ((m : Int) == (np : Int)) = false := by simp; omega
        have HE9 : Hid (matQ np nr l = false) := Lib.hid (by rw [HE.out]; simp [hmn])
        go_wp2_with fail
        go_ret
        exact ⟨by rw [HE9.out]; rfl, hZ.out⟩
set_option maxRecDepth 8000 in
set_option maxHeartbeats 4000000 in
theorem rmatching_w {w : World} {np nr m c : Nat} {a : Option Addr} {l : List Int} (h : IntsF w a l) (hm : m = l.length) (hm9 : m ≤ 12) :
    Calls Try.prog 25 #[.slice a m c, .int .i64 (np : Nat), .int .i64 (nr : Nat)] w fun e w' => e = .returned (.bool (matQ np nr l)) ∧ Below w.heap.size w w' := by
  have HI := Lib.hid h
  have HM := Lib.hid hm
  have KS := Lib.hid (fun (w' : World) (v : Int) (hb : Below w.heap.size w w') => score_w (c := c) (v := v) (h.below hb) hm (by omega))
  clear h hm
  obtain ⟨okb, hokb⟩ : ∃ b, b = matQ np nr l := ⟨_, rfl⟩
  have HOK := Lib.hid hokb
  rw [← hokb]
  clear hokb
  by_cases hmn : m = np
  rotate_left
  · have u1 : ((m : Int) == (np : Int)) = false := by simp; omega
    have u2 : ((m : Int) != (np : Int)) = true := by simp; omega
    have HE9 : Hid (false = okb) := Lib.hid (by rw [HOK.out]; unfold matQ; rw [← HM.out]; simp [hmn])
    go_enter Try.func25, Try.ntmps25
    go_wp2_with fail
    go_ret
    exact ⟨by rw [← HE9.out]; rfl, Below.refl _ _⟩
  subst hmn
  go_enter Try.func25, Try.ntmps25
  go_wp2_with fail
  go_loopw [7] (fun iv wr => ∃ i : Nat, i ≤ m ∧ iv = .int .i64 i ∧ wr = w ∧ Hid (∀ j, j < i → okM nr l j = true)) (fun iv _ => m - (intOf iv).toNat)
  case atStart => exact ⟨0, Nat.zero_le _, rfl, rfl, Lib.hid (fun j hj => absurd hj (Nat.not_lt_zero _))⟩
  case round =>
    obtain ⟨i, hi, rfl, rfl, hok⟩ := hrel
    by_cases hin : i < m
    · have t0 : decide ((i : Int) < (m : Int)) = true := by simp; omega
      obtain ⟨z, B, off, hz, ha, hzb, hc⟩ := HI.out.at (i := i) (by have := HM.out; omega)
      subst ha
      have e1 := hc _ (Below.refl _ _)
      have HLZ := Lib.hid hz
      clear hc hz
      by_cases hz1 : z < -1
      · have t1 : decide (z < -1) = true := by simpa using hz1
        have HE : Hid (false = okb) := Lib.hid (by rw [HOK.out]; exact (matQ_no (i := i) (by have := HM.out; omega) (by rw [okM_of HLZ.out]; simp; omega)).symm)
        go_wp2_with fail
        go_ret
        exact ⟨by rw [← HE.out]; rfl, Below.refl _ _⟩
      have t1 : decide (z < -1) = false := by simpa using hz1
      by_cases hzn : z ≥ nr
      · have t2 : decide (z ≥ (nr : Int)) = true := by simpa using hzn
        have t3 : decide ((nr : Int) ≤ z) = true := by simpa using hzn
        have HE : Hid (false = okb) := Lib.hid (by rw [HOK.out]; exact (matQ_no (i := i) (by have := HM.out; omega) (by rw [okM_of HLZ.out]; simp; omega)).symm)
        go_wp2_with fail
        go_ret
        exact ⟨by rw [← HE.out]; rfl, Below.refl _ _⟩
      have t2 : decide (z ≥ (nr : Int)) = false := by simpa using hzn
      have t3 : decide ((nr : Int) ≤ z) = false := by simpa using hzn
      by_cases hz0 : z = -1
      · subst hz0
        have HOK9 : Hid (∀ j, j < i + 1 → okM nr l j = true) := Lib.hid (fun j hj => by
          by_cases hji : j = i
          · rw [hji, okM_of HLZ.out]; simp
          · exact hok.out j (by omega))
        go_wp2_with fail
        go_roundw
        case rel => exact ⟨i + 1, by omega, by go_num, by first | rfl | trivial, HOK9⟩
        case measure => simp [intOf]; omega
      · have t4 : decide (z ≥ 0) = true := by simp; omega
        have t5 : decide (0 ≤ z) = true := by simp; omega
        obtain ⟨s, hs⟩ : ∃ s, s = scoreQ l z := ⟨_, rfl⟩
        have KZ := Lib.hid (KS.out wr z (Below.refl _ _))
        rw [← hs] at KZ
        have HOA : Hid (okM nr l i = decide (s = i)) := Lib.hid (by
          rw [okM_of HLZ.out, hs, score_first HLZ.out]
          have h9 : decide (0 ≤ z ∧ z < (nr : Int)) = true := by simp; omega
          have h8 : decide (z = -1) = false := by simpa using hz0
          rw [h9, h8, Bool.true_and, Bool.false_or])
        clear hs
        go_wp2_with fail
        refine KZ.out.mono ?_
        rintro en2 w2 ⟨rfl, rfl⟩
        by_cases hsi : s = i
        · have HOK9 : Hid (∀ j, j < i + 1 → okM nr l j = true) := Lib.hid (fun j hj => by
            by_cases hji : j = i
            · rw [hji, HOA.out]; simpa using hsi
            · exact hok.out j (by omega))
          subst hsi
          go_wp2_with fail
          go_roundw
          case rel => exact ⟨s + 1, by omega, by go_num, by first | rfl | trivial, HOK9⟩
          case measure => simp [intOf]; omega
        · have u1 : ((s : Int) == (i : Int)) = false := by simp; omega
          have u2 : ((s : Int) != (i : Int)) = true := by simp; omega
          have HE : Hid (false = okb) := Lib.hid (by rw [HOK.out]; exact (matQ_no (i := i) (by have := HM.out; omega) (by rw [HOA.out]; simpa using hsi)).symm)
          go_wp2_with fail
          go_ret
          exact ⟨by rw [← HE.out]; rfl, Below.refl _ _⟩
    · have t0 : decide ((i : Int) < (m : Int)) = false := by simp; omega
      have HE : Hid (true = okb) := Lib.hid (by rw [HOK.out]; exact (matQ_yes HM.out.symm (fun j hj => hok.out j (by have := HM.out; omega))).symm)
      go_wp2_with fail
      go_ret
      exact ⟨by rw [← HE.out]; rfl, Below.refl _ _⟩
set_option maxRecDepth 8000 in
set_option maxHeartbeats 2000000 in
theorem holder_w {w : World} {a : Option Addr} {m c : Nat} {l : List Int} {v : Int} (h : IntsF w a l) (hm : m = l.length) (hm9 : m ≤ 9223372036854775807) :
    Calls Try.prog 50 #[.slice a m c, .int .i64 v] w fun e w' => e = .returned (.int .i64 (posQ l v)) ∧ w = w' := by
  have HI := Lib.hid h
  have HM := Lib.hid hm
  obtain ⟨r, hr⟩ : ∃ r, r = posQ l v := ⟨_, rfl⟩
  have HR := Lib.hid hr
  rw [← hr]
  clear h hm hr
  go_enter Try.func50, Try.ntmps50
  go_wp2_with fail
  go_loopw [5] (fun iv wr => ∃ i : Nat, i ≤ m ∧ iv = .int .i64 i ∧ wr = w ∧ Hid (∀ (j : Nat) (z : Int), j < i → l[j]? = some z → z ≠ v)) (fun iv _ => m - (intOf iv).toNat)
  case atStart => exact ⟨0, Nat.zero_le _, rfl, rfl, Lib.hid (fun j z hj => absurd hj (Nat.not_lt_zero _))⟩
  case round =>
    obtain ⟨i, hi, rfl, rfl, hno⟩ := hrel
    by_cases hin : i < m
    · have t0 : decide ((i : Int) < (m : Int)) = true := by simp; omega
      obtain ⟨z, B, off, hz, ha, hzb, hc⟩ := HI.out.at (i := i) (by have := HM.out; omega)
      subst ha
      have e1 := hc _ (Below.refl _ _)
      have HLZ := Lib.hid hz
      clear hc hz
      by_cases hzv : z = v
      · subst hzv
        have u1 : (z == z) = true := by simp
        have HE : Hid (Value.int IntKind.i64 (i : Int) = Value.int IntKind.i64 r) := Lib.hid (by
          obtain ⟨h1, h2⟩ := pos_yes HLZ.out hno.out
          rw [HR.out]; unfold posQ; rw [if_pos h2, h1])
        go_wp2_with fail
        go_ret
        exact ⟨by rw [← HE.out]; rfl, rfl⟩
      · have t1 : (z == v) = false := by simpa using hzv
        have t2 : decide (z = v) = false := by simpa using hzv
        have HN9 : Hid (∀ (j : Nat) (z : Int), j < i + 1 → l[j]? = some z → z ≠ v) := Lib.hid (fun j y hj hy => by
          by_cases hji : j = i
          · subst hji
            rw [HLZ.out] at hy
            cases hy
            exact hzv
          · exact hno.out j y (by omega) hy)
        go_wp2_with fail
        go_roundw
        case rel => exact ⟨i + 1, by omega, by go_num, by first | rfl | trivial, HN9⟩
        case measure => simp [intOf]; omega
    · have t0 : decide ((i : Int) < (m : Int)) = false := by simp; omega
      have HE : Hid (Value.int IntKind.i64 (-1) = Value.int IntKind.i64 r) := Lib.hid (by
        rw [HR.out]; unfold posQ
        rw [if_neg (pos_no fun j z hj => hno.out j z (by have := (List.getElem?_eq_some_iff.1 hj).1; have := HM.out; omega) hj)])
      go_wp2_with fail
      go_ret
      exact ⟨by rw [← HE.out]; rfl, rfl⟩
end Go.Proofs.Ytomnnickiljkgaa
