/- Median of the package: Grow, Concat, the library's sort. -/
import Derived.Test.YtomnnickiljkgaaHx
import Derived.Test.YtomnnickiljkgaaHw
import Derived.Lib.AppendZerosOnto
import Derived.Sort.OwnSortedInts
import Derived.Laws.AppendOwnNone
namespace Go.Proofs.Ytomnnickiljkgaa
open Go.RowKit
attribute [local go_sem ↓] Go.wp_at_zero Go.wp_at_succ

set_option maxRecDepth 8000 in
set_option maxHeartbeats 4000000 in
theorem grow_w {w : World} {n : Nat} (hn : n ≤ 1000000) :
    Calls Try.prog 65 #[.slice none 0 0, .int .i64 (n : Nat)] w fun e w' => (∃ v, e = .returned v ∧ LIo w' w.heap.size v []) ∧ Below w.heap.size w w' := by
  by_cases h0 : n = 0
  · subst h0
    go_enter Try.func65, Try.ntmps65
    go_wp2_with fail
    go_ret
    exact ⟨⟨_, rfl, LIo.nil _ _⟩, Below.refl _ _⟩
  obtain ⟨i0, hi0, hz0, hz1, hz2⟩ := info_parts info_int9
  have hfit : Builtin.nextslicecap (0 + n) 0 * i0.bytes ≤ 281474976710656 := growslice_fits (by omega) (by rw [hz2]; omega)
  have hrz : ∀ ty, (Builtin.append_ #[23, 3] ty #[.slice none 0 0, .int .i64 (n : Nat)]).run Try.prog w =
      .ok (.slice (some ⟨w.heap.size, 0, none⟩) (0 + n) (grownCap w (0 + n) 0 3)) (w.drew.alloc (.cells ((#[] : Array Value) ++ Builtin.zeroCells (Value.int .i64 0).cells n ++ Builtin.zeroCells (Value.int .i64 0).cells (grownCap w (0 + n) 0 3 - (0 + n))) 3)) := fun ty => by
    have h9 := Lib.run_append_grow_zeros (P := Try.prog) w 23 3 ty 3 i0 (.int .i64 0) .i64 .i64 Try.underlying23 Try.underlying3 hi0 hz0 none 0 0 [] (by rw [run_firstCells_none]) n (by omega) (by rw [hz1]; omega) (by omega) (by omega) (by rw [hz2]; omega) hfit
    simpa using h9
  have hge := grownCap_ge w (0 + n) 0 3
  have hle := grownCap_le_maxLen w (0 + n) 0 3 (by unfold maxLen; omega)
  obtain ⟨G, hG⟩ : ∃ G, G = grownCap w (0 + n) 0 3 := ⟨_, rfl⟩
  rw [← hG] at hrz hge hle
  rw [Nat.zero_add] at hrz hge
  have hG63 : G ≤ 9223372036854775807 := by simp only [maxLen] at hle; omega
  have HLE := Lib.hid hle
  have t0 : decide ((n : Int) > 0) = true := by simp; omega
  have t1 : decide ((0 : Int) < (n : Int)) = true := by simp; omega
  have t2 : decide ((n : Int) < 0) = false := by simp
  clear hG hfit hle hi0 hz0 hz1 hz2
  go_enter Try.func65, Try.ntmps65
  go_wp2_with ((with_reducible refine at_append ?_); refine Lib.wpList_append_run _ rfl _ _ _ _ rfl _ _ rfl rfl _ _ (hrz _) ?_)
  all_goals (go_ret; refine ⟨⟨_, rfl, ⟨rfl, Or.inr ⟨_, G, _, rfl, Nat.le_refl _, heap_alloc_new _ _, by simp, HLE.out, ?_, by simp⟩⟩⟩, below_drewN ((Below.refl _ _).alloc (Nat.le_refl _) _) 1⟩)
  all_goals (simp [size_zeroCells]; omega)

theorem wpList_app_ints {w : World} {ops : Array Oper} {rest : List Oper} {o : Oper} {a : Act} {Q : Exit → Act → World → Prop} (hgd : o.guard = none) (s x : Operand)
    (ho : o.op = .call { callee := .builtin .append, args := #[s, x], argTypes := #[23, 23] }) (base : Nat) (v : Value) (zs : List Int) (hs : a.eval s = v) (hown : LIo w base v zs)
    (ad : Option Addr) (m c : Nat) (l : List Int) (hx : a.eval x = .slice ad m c) (hm : m = l.length) (hc : ad = none → c = 0) (hI : IntsF w ad l) (hlen : zs.length + l.length ≤ 1000000) (hbase : base ≤ w.heap.size)
    (h : ∀ v' w', LIo w' base v' (zs ++ l) → (∀ W, Below base W w → Below base W w') → wpList Try.prog ops Q rest (a.put o.dst v') w') :
    wpList Try.prog ops Q (o :: rest) a w := by
  obtain ⟨i0, hi0, hz0, hz1, hz2⟩ := info_parts info_int9
  have hlt := hown.lt
  subst hm
  cases ad with
  | none =>
    have hl : l = [] := by
      cases l with
      | nil => rfl
      | cons z l => obtain ⟨B, off, e, _⟩ := hI 0 z rfl; cases e
    subst hl
    have hc0 := hc rfl
    subst hc0
    refine wpList_append_own_none hgd s x 23 ho base 3 i0 1 Try.underlying23 hi0 v zs.length (zs.map (Value.int .i64)) hs hown hx ?_
    exact h v w (by rw [List.append_nil]; exact hown) (fun W hW => hW)
  | some ad =>
    refine wpList_append_own w hgd s x 23 ho base 3 i0 (.int .i64 0) 1 8 Try.underlying23 hi0 hz0 hz1 hz2 rfl (by decide) v zs.length (zs.map (Value.int .i64)) hs hown ad l.length c (l.map (Value.int .i64)) hx (by simp) (by
        intro j u hu
        rw [List.getElem?_map] at hu
        cases hj : l[j]? with
        | none => rw [hj] at hu; cases hu
        | some z =>
          rw [hj] at hu
          cases hu
          obtain ⟨B, off, e, hcell, _⟩ := hI j z hj
          cases e
          rw [Addr.add_lit]
          exact hcell) (by intro u hu; obtain ⟨z, _, rfl⟩ := List.mem_map.1 hu; rfl) (by unfold maxLen; omega) (by omega) hbase ?_
    intro v' w' h2 h3 _
    refine h v' w' (by unfold LIo; rw [List.length_append, List.map_append]; exact h2) ?_
    intro W hW
    exact hW.grown h3 hbase (fun k hk => (hlt k hk).1)
set_option maxRecDepth 8000 in
set_option maxHeartbeats 4000000 in
theorem concat_w {w : World} {X m c n d : Nat} {a b : Option Addr} {l k : List Int} (hX : w.heap[X]? = some (.cells #[Value.slice a m c, Value.slice b n d] 23 (0, 0))) (h : IntsF w a l) (hm : m = l.length) (hac : a = none → c = 0) (h2 : IntsF w b k) (hn : n = k.length) (hbd : b = none → d = 0) (hmn : m + n ≤ 10000) :
    Calls Try.prog 53 #[.slice (some ⟨X, 0, none⟩) 2 2] w fun e w' => (∃ v, e = .returned v ∧ LIo w' w.heap.size v (l ++ k)) ∧ Below w.heap.size w w' := by
  have HX := Lib.hid hX
  have HI := Lib.hid h
  have HK := Lib.hid h2
  have HM := Lib.hid hm
  have HN := Lib.hid hn
  have HAC := Lib.hid hac
  have HBD := Lib.hid hbd
  have KG := Lib.hid (grow_w (w := w) (n := m + n) (by omega))
  have RX : Hid (∀ w', Below w.heap.size w w' → w'.cell? ⟨X, 0, none⟩ = some (.slice a m c) ∧ w'.cell? ⟨X, 1, none⟩ = some (.slice b n d)) := Lib.hid (fun w' hb => by
    have h9 := row_below hb hX
    exact ⟨by rw [cell_of_row _ _ _ _ _ _ h9]; rfl, by rw [cell_of_row _ _ _ _ _ _ h9]; rfl⟩)
  clear hX h hm h2 hn hac hbd
  obtain ⟨x0, x1⟩ := RX.out w (Below.refl _ _)
  go_enter Try.func53, Try.ntmps53
  go_wp2_with fail
  go_loopw [3, 11] (fun sv iv wr => ∃ (i s : Nat), i ≤ 2 ∧ iv = .int .i64 i ∧ sv = .int .i64 (s : Nat) ∧ w = wr ∧ Hid ((i = 0 ∧ s = 0) ∨ (i = 1 ∧ s = m) ∨ (i = 2 ∧ s = m + n))) (fun _ iv _ => 2 - (intOf iv).toNat)
  case atStart => exact ⟨0, 0, by omega, rfl, rfl, rfl, Lib.hid (Or.inl ⟨rfl, rfl⟩)⟩
  case round =>
    obtain ⟨i, s, hi, rfl, rfl, rfl, hs⟩ := hrel
    rcases hs.out with ⟨rfl, rfl⟩ | ⟨rfl, rfl⟩ | ⟨rfl, rfl⟩
    · have t1 : decide ((m : Int) < 0) = false := by simp
      go_wp2_with fail
      go_roundw
      case rel => exact ⟨1, m, by omega, by go_num, rfl, by first | rfl | trivial, Lib.hid (Or.inr (Or.inl ⟨rfl, rfl⟩))⟩
      case measure => simp [intOf]
    · have hw9 : IntKind.i64.wrap ((s : Int) + (n : Int)) = ((s + n : Nat) : Int) := by rw [IntWalk.i64_in ((s : Int) + (n : Int)) (by omega)]; omega
      have t1 : decide (((s + n : Nat) : Int) < 0) = false := by simp; omega
      go_wp2_with fail
      go_roundw
      case rel => exact ⟨2, s + n, by omega, by go_num, by first | rfl | (simp; done) | go_num, by first | rfl | trivial, Lib.hid (Or.inr (Or.inr ⟨rfl, rfl⟩))⟩
      case measure => simp [intOf]
    · have hw9 : ((m + n : Nat) : Int) = (m : Int) + (n : Int) := by omega
      rw [hw9] at KG
      clear hw9
      go_wp2_with fail
      refine KG.out.mono ?_
      rintro en2 w2 ⟨⟨v, rfl, hL⟩, hb2⟩
      have HL := Lib.hid hL
      have HZ2 := Lib.hid hb2
      clear hL hb2 KG x0 x1
      go_wp2_with fail
      go_loopw [6, 27] (fun vv iv wr9 => ∃ (i : Nat) (zs : List Int), i ≤ 2 ∧ iv = .int .i64 i ∧ Hid (LIo wr9 w.heap.size vv zs) ∧ Hid (Below w.heap.size w wr9) ∧ Hid ((i = 0 ∧ zs = []) ∨ (i = 1 ∧ zs = l) ∨ (i = 2 ∧ zs = l ++ k))) (fun _ iv _ => 2 - (intOf iv).toNat)
      case atStart => exact ⟨0, [], by omega, rfl, HL, HZ2, Lib.hid (Or.inl ⟨rfl, rfl⟩)⟩
      case round =>
        obtain ⟨i, zs, hi, rfl, hL, hZ, hs⟩ := hrel
        clear HL HZ2
        obtain ⟨wo, rfl⟩ : ∃ wo : World, wo = wr := ⟨_, rfl⟩
        obtain ⟨x0, x1⟩ := RX.out wo hZ.out
        rcases hs.out with ⟨rfl, rfl⟩ | ⟨rfl, rfl⟩ | ⟨rfl, rfl⟩
        · have HIA := Lib.hid (HI.out.below hZ.out)
          go_wp2_with ((with_reducible refine at_append ?_); refine wpList_app_ints rfl (.tmp 31) (.tmp 32) rfl w.heap.size u6 [] rfl hL.out a m c l rfl HM.out HAC.out HIA.out (by have := HM.out; simp; omega) hZ.out.size ?_; intro v2 w2 h1 h2; refine halt ?_)
          refine go_on ?_
          have HL9 : Hid (LIo w2 w.heap.size v2 l) := Lib.hid (by rw [List.nil_append] at h1; exact h1)
          have HZ9 := Lib.hid (h2 _ hZ.out)
          clear h1 h2 x0 x1
          go_wp2_with fail
          go_roundw
          case rel => exact ⟨1, l, by omega, by go_num, HL9, HZ9, Lib.hid (Or.inr (Or.inl ⟨rfl, rfl⟩))⟩
          case measure => simp [intOf]
        · have HIA := Lib.hid (HK.out.below hZ.out)
          go_wp2_with ((with_reducible refine at_append ?_); refine wpList_app_ints rfl (.tmp 31) (.tmp 32) rfl w.heap.size u6 zs rfl hL.out b n d k rfl HN.out HBD.out HIA.out (by have := HM.out; have := HN.out; omega) hZ.out.size ?_; intro v2 w2 h1 h2; refine halt ?_)
          refine go_on ?_
          have HL9 : Hid (LIo w2 w.heap.size v2 (zs ++ k)) := Lib.hid h1
          have HZ9 := Lib.hid (h2 _ hZ.out)
          clear h1 h2 x0 x1
          go_wp2_with fail
          go_roundw
          case rel => exact ⟨2, zs ++ k, by omega, by go_num, HL9, HZ9, Lib.hid (Or.inr (Or.inr ⟨rfl, rfl⟩))⟩
          case measure => simp [intOf]
        · go_wp2_with fail
          go_ret
          exact ⟨⟨_, rfl, hL.out⟩, hZ.out⟩

/-- The numbers in order. -/
def sortQ (l : List Int) : List Int := l.mergeSort fun x y => decide (x ≤ y)
theorem sortQ_len (l : List Int) : (sortQ l).length = l.length := by unfold sortQ; rw [List.length_mergeSort]
def errM (l k : List Int) : Int := if l.length > 1000 then 1 else if l.length = 0 ∨ k.length ≠ l.length - 1 then 70 else 0
def medQ (l k : List Int) : Int := if errM l k = 0 then nthI (sortQ (l ++ k)) k.length else 0
set_option maxRecDepth 8000 in
theorem sort_w {w : World} {base : Nat} {v : Value} {zs : List Int} (h : LIo w base v zs) (hne : zs ≠ []) (hl : zs.length ≤ 1000000) :
    Calls Try.prog 54 #[v] w fun e w' => e = .returned (.tuple #[]) ∧ LIo w' base v (sortQ zs) ∧ (∀ W, Below base W w → Below base W w') := by
  rcases h.2 with ⟨rfl, h0⟩ | ⟨g, cap, cur, rfl, hbase, hh, hnc, hcm, hcs, htake⟩
  · exact absurd (List.eq_nil_of_length_eq_zero h0) hne
  have hc := sort_lib g 0 cap zs w (holds_of_blockI hh (by simpa using htake)) (Array.getElem?_eq_some_iff.1 hh).1 (by omega)
  refine hc.mono ?_
  rintro e w' ⟨rfl, n, os, rfl⟩
  refine ⟨rfl, ?_, fun W hW => hW.grown (grownBy_sortedI _) (Nat.le_of_lt (Nat.lt_of_le_of_lt hbase (Array.getElem?_eq_some_iff.1 hh).1)) (fun k hk => ?_)⟩
  · have h9 := ownsRow_sortedI (n := n) (os := os) (ss := zs) (ts := sortQ zs) (sortQ_len zs) hbase hh hnc hcm hcs
    unfold LIo
    rw [sortQ_len]
    exact h9
  · cases hk
    exact hbase
set_option maxRecDepth 8000 in
set_option maxHeartbeats 4000000 in
theorem median_w {w : World} {m c n d : Nat} {a b : Option Addr} {l k : List Int} (h : IntsF w a l) (hm : m = l.length) (hac : a = none → c = 0) (h2 : IntsF w b k) (hn : n = k.length) (hbd : b = none → d = 0) (hm9 : m ≤ 2000) (hn9 : n ≤ 2000) :
    Calls Try.prog 36 #[.slice a m c, .slice b n d] w fun e w' => e = .returned (.tuple #[.int .i64 (medQ l k), .int .i64 (errM l k)]) ∧ Below w.heap.size w w' := by
  have HI := Lib.hid h
  have HK := Lib.hid h2
  have HM := Lib.hid hm
  have HN := Lib.hid hn
  have HAC := Lib.hid hac
  have HBD := Lib.hid hbd
  obtain ⟨er, her⟩ : ∃ x, x = errM l k := ⟨_, rfl⟩
  obtain ⟨md, hmd⟩ : ∃ x, x = medQ l k := ⟨_, rfl⟩
  have HER : Hid (er = if m > 1000 then 1 else if m = 0 ∨ n ≠ m - 1 then 70 else 0) := Lib.hid (by rw [her]; unfold errM; rw [← hm, ← hn])
  have HMD : Hid (md = if er = 0 then nthI (sortQ (l ++ k)) n else 0) := Lib.hid (by rw [hmd, her]; unfold medQ; rw [← hn])
  rw [← her, ← hmd]
  clear h hm hac h2 hn hbd her hmd
  by_cases g1 : m > 1000
  · have t1 : decide ((1000 : Int) < (m : Int)) = true := by simp; omega
    have t2 : decide ((m : Int) > 1000) = true := by simp; omega
    have HE : Hid (er = 1 ∧ md = 0) := Lib.hid (by
      have h1 : er = 1 := by rw [HER.out, if_pos g1]
      exact ⟨h1, by rw [HMD.out, h1]; rfl⟩)
    go_enter Try.func36, Try.ntmps36
    go_wp2_with fail
    go_ret2
    exact ⟨by rw [HE.out.1, HE.out.2]; rfl, Below.refl _ _⟩
  have t1 : decide ((1000 : Int) < (m : Int)) = false := by simp; omega
  have t2 : decide ((m : Int) > 1000) = false := by simp; omega
  by_cases g2 : m = 0
  · have HE : Hid (er = 70 ∧ md = 0) := Lib.hid (by
      have h1 : er = 70 := by rw [HER.out, if_neg g1, if_pos (Or.inl g2)]
      exact ⟨h1, by rw [HMD.out, h1]; rfl⟩)
    subst g2
    go_enter Try.func36, Try.ntmps36
    go_wp2_with fail
    go_ret2
    exact ⟨by rw [HE.out.1, HE.out.2]; rfl, Below.refl _ _⟩
  have t3 : ((m : Int) == 0) = false := by simp; omega
  by_cases g3 : n = m - 1
  rotate_left
  · have t4 : ((n : Int) == (m : Int) - 1) = false := by simp; omega
    have t5 : ((n : Int) != (m : Int) - 1) = true := by simp; omega
    have HE : Hid (er = 70 ∧ md = 0) := Lib.hid (by
      have h1 : er = 70 := by rw [HER.out, if_neg g1, if_pos (Or.inr g3)]
      exact ⟨h1, by rw [HMD.out, h1]; rfl⟩)
    go_enter Try.func36, Try.ntmps36
    go_wp2_with fail
    go_ret2
    exact ⟨by rw [HE.out.1, HE.out.2]; rfl, Below.refl _ _⟩
  have HE : Hid (er = 0 ∧ md = nthI (sortQ (l ++ k)) n) := Lib.hid (by
    have h1 : er = 0 := by rw [HER.out, if_neg g1, if_neg (by omega)]
    exact ⟨h1, by rw [HMD.out, h1]; rfl⟩)
  obtain ⟨w1, hw1⟩ : ∃ w1, w1 = w.alloc (Obj.cells #[Value.slice a m c, Value.slice b n d] 23) := ⟨_, rfl⟩
  have HB1 : Hid (Below w.heap.size w w1) := Lib.hid (by rw [hw1]; exact (Below.refl _ _).alloc (Nat.le_refl _) _)
  have KC := Lib.hid (concat_w (w := w1) (X := w.heap.size) (by rw [hw1]; exact heap_alloc_new w _) (HI.out.below HB1.out) HM.out HAC.out (HK.out.below HB1.out) HN.out HBD.out (by omega))
  have HW1 := Lib.hid hw1.symm
  have HNE : Hid (l ++ k ≠ []) := Lib.hid (by
    intro e
    have h9 := congrArg List.length e
    rw [List.length_append, List.length_nil] at h9
    have := HM.out
    omega)
  have HWD : Hid (∀ z ∈ sortQ (l ++ k), -9223372036854775808 ≤ z ∧ z ≤ 9223372036854775807) := Lib.hid (fun z hz => by
    have h9 := (List.mergeSort_perm (l ++ k) (fun x y => decide (x ≤ y))).mem_iff.1 hz
    rcases List.mem_append.1 h9 with h8 | h8
    · exact HI.out.wide h8
    · exact HK.out.wide h8)
  have HLL : Hid (m + n = (l ++ k).length) := Lib.hid (by rw [List.length_append, ← HM.out, ← HN.out])
  have t4 : ((n : Int) == (m : Int) - 1) = true := by simp; omega
  have t5 : ((n : Int) != (m : Int) - 1) = false := by simp; omega
  have hm0 : 0 < m := by omega
  clear hw1 g3
  go_enter Try.func36, Try.ntmps36
  go_wp2_with fail
  rw [HW1.out]
  clear HW1
  refine KC.out.mono ?_
  rintro en2 w2 ⟨⟨v, rfl, hL⟩, hb2⟩
  have KS := Lib.hid (sort_w hL HNE.out (by have := HLL.out; omega))
  have HB2 := Lib.hid hb2
  clear hL hb2 KC
  go_wp2_with fail
  refine KS.out.mono ?_
  rintro en3 w3 ⟨rfl, hL, hb3⟩
  have HB3 := Lib.hid (hb3 _ HB2.out)
  obtain ⟨va, vc, hv⟩ := hL.form
  have hsl : (sortQ (l ++ k)).length = m + n := by rw [sortQ_len, HLL.out]
  rw [hsl] at hv
  subst hv
  have hIn : IntsF w3 va (sortQ (l ++ k)) := hL.ints HWD.out
  have hget : (sortQ (l ++ k))[n]? = some (nthI (sortQ (l ++ k)) n) := nthI_get (by rw [hsl]; omega)
  obtain ⟨B, off, hva, hcell, -⟩ := hIn n _ hget
  subst hva
  rw [← HE.out.2] at hcell
  have e1 : w3.cell? ⟨B, off + n, none⟩ = some (.int .i64 md) := hcell
  have hnm : n < m + n := by omega
  clear hL hb3 hsl hIn hget hcell KS
  go_wp2_with fail
  go_ret2
  exact ⟨by rw [HE.out.1]; rfl, below_trans HB1.out HB3.out⟩
end Go.Proofs.Ytomnnickiljkgaa
