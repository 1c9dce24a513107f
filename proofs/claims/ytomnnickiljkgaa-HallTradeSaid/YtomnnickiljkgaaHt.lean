/- Trade of the package. -/
import Derived.Test.YtomnnickiljkgaaHr
namespace Go.Proofs.Ytomnnickiljkgaa
open Go.RowKit
attribute [local go_sem ↓] Go.wp_at_zero Go.wp_at_succ

theorem IntsF.other {w w' : World} {a : Option Addr} {l : List Int} {G : Nat} (h : IntsF w a l) (hb : Only G w w') (hne : ∀ x, a = some x → x.block ≠ G) : IntsF w' a l := fun i z hz => by
  obtain ⟨B, off, ha, hc, h1⟩ := h i z hz
  refine ⟨B, off, ha, ?_, h1⟩
  rw [World.cell?_of_block (w := w) (a := ⟨B, off + i, none⟩) (hb.block B (hne _ ha))]
  exact hc
theorem tab_succ (n : Nat) (f : Nat → Int) : tabI (n + 1) f = tabI n f ++ [f n] := by
  unfold tabI
  rw [List.range_succ, List.map_append]; rfl
set_option maxRecDepth 8000 in
theorem pointed1_w {w : World} {p G n : Nat} {g : Nat → Int} {z : Int} (hp : w.cell? ⟨p, 0, none⟩ = some (.slice (some ⟨G, 0, none⟩) n n)) (hG : BlkI w G (tabI n g)) (hz : 0 ≤ z ∧ z < n) :
    Calls Try.prog 68 #[.int .i64 z, .pointer (some ⟨p, 0, none⟩)] w fun e w' => e = .returned (.bool (decide (g z.toNat = -1))) ∧ w = w' := by
  obtain ⟨k, rfl⟩ : ∃ k : Nat, z = (k : Int) := ⟨z.toNat, by omega⟩
  rw [Int.toNat_natCast]
  have hk : k < n := by omega
  obtain ⟨gk, hgk⟩ : ∃ x, x = g k := ⟨_, rfl⟩
  have e1 : w.cell? ⟨G, k, none⟩ = some (.int .i64 gk) := by rw [hgk]; exact hG.cell (tab_get hk)
  rw [← hgk]
  clear hG hz hgk
  by_cases h : gk = -1
  · subst h
    go_enter Try.func68, Try.ntmps68
    go_wp2_with fail
    go_ret
    exact ⟨rfl, rfl⟩
  · have t1 : (gk == -1) = false := by simpa using h
    have t2 : decide (gk = -1) = false := by simpa using h
    have HT2 := Lib.hid t2
    clear t2
    go_enter Try.func68, Try.ntmps68
    go_wp2_with fail
    go_ret
    exact ⟨by first | rfl | (rw [HT2.out]; rfl), rfl⟩
set_option maxRecDepth 8000 in
set_option maxHeartbeats 8000000 in
theorem pointed_w {w : World} {n ca G b : Nat} {a : Option Addr} {W : List (List Int)} {g : Nat → Int} (h : RowsF w a W) (hs : SmallL W) (hn : n = W.length) (hn8 : n ≤ 8) (hW : AllT W) (hG : BlkI w G (tabI n g)) (hb : b < W.length) (hgb : g b = -1) :
    Calls Try.prog 57 #[.slice a n ca, .slice (some ⟨G, 0, none⟩) n n] w fun e w' => (∃ pa pc, e = .returned (.slice pa n pc) ∧ IntsF w' pa (tabI n (ptI W g)) ∧ (∀ x, pa = some x → w.heap.size ≤ x.block)) ∧ Below w.heap.size w w' := by
  have HW := Lib.hid h
  have HS := Lib.hid hs
  have HN := Lib.hid hn
  have HA := Lib.hid hW
  have HB : Hid (b < W.length ∧ g b = -1) := Lib.hid ⟨hb, hgb⟩
  obtain ⟨w1, hw1⟩ : ∃ w1, w1 = w.alloc (Obj.cells #[Value.slice (some ⟨G, 0, none⟩) n n] 23) := ⟨_, rfl⟩
  have hb1 : Below w.heap.size w w1 := by rw [hw1]; exact (Below.refl _ _).alloc (Nat.le_refl _) _
  have HX : Hid (w1.heap[w.heap.size]? = some (.cells #[Value.slice (some ⟨G, 0, none⟩) n n] 23 (0, 0))) := Lib.hid (by rw [hw1]; exact heap_alloc_new w _)
  have HG1 : Hid (BlkI w1 G (tabI n g)) := Lib.hid (hG.below hb1)
  have HZ1 := Lib.hid hb1
  have HW1 := Lib.hid hw1.symm
  have HGR : Hid (∀ z ∈ tabI n (ptI W g), -9223372036854775808 ≤ z ∧ z ≤ 9223372036854775807) := Lib.hid (fun z hz => by
    obtain ⟨i, hi, e⟩ := mem_tab hz
    have h9 := pt_spec hW hb hgb (i := i) (by omega)
    rw [h9.1] at e
    have := h9.2.1
    omega)
  clear h hs hn hW hG hb hgb hw1 hb1
  go_enter Try.func57, Try.ntmps57
  have hmf : ∀ (fn : Fn) (first cap : Array Value) (w : World), (Instr.makeFunc fn first cap).run Try.prog w = .ok (.func fn first cap) w := fun _ _ _ _ => rfl
  go_wp2_with fail
  rw [HW1.out]
  clear HW1
  obtain ⟨p, hp⟩ : ∃ p, p = w.heap.size := ⟨_, rfl⟩
  rw [← hp]
  rw [← hp] at HX
  clear hp
  go_loopw [6, 12] (fun vv iv wr => ∃ i : Nat, i ≤ n ∧ iv = .int .i64 i ∧ Hid (LIo wr w1.heap.size vv (tabI i (ptI W g))) ∧ Hid (Below w1.heap.size w1 wr)) (fun _ iv _ => n - (intOf iv).toNat)
  case atStart => exact ⟨0, Nat.zero_le _, rfl, Lib.hid (LIo.nil _ _), Lib.hid (Below.refl _ _)⟩
  case round =>
    obtain ⟨i, hi, rfl, hL, hZ⟩ := hrel
    obtain ⟨wo, rfl⟩ : ∃ wo : World, wo = wr := ⟨_, rfl⟩
    by_cases hin : i < n
    · have t0 : decide ((i : Int) < (n : Int)) = true := by simp; omega
      obtain ⟨B2, off2, a2, c2, hb, hI2, -, -, hc2⟩ := HW.out.at (i := i) (by have := HN.out; omega)
      subst hb
      have hZW : Below w.heap.size w wo := below_trans HZ1.out hZ.out
      have e2 := hc2 wo hZW
      have hl2 := HS.out.nth i
      have hsp := pt_spec HA.out HB.out.1 HB.out.2 (i := i) (by have := HN.out; omega)
      have hx0 : wo.cell? ⟨p, 0, none⟩ = some (.slice (some ⟨G, 0, none⟩) n n) := by rw [cell_of_row _ _ _ _ _ _ (row_below hZ.out HX.out)]; rfl
      have hlst := listed_iff.1 (HA.out i (by have := HN.out; omega)).2
      have KX := Lib.hid (idx_pointed (c := c2) (pb := fun x => decide (g x.toNat = -1)) (hI2.below hZW) rfl (by omega) (fun z hz => pointed1_w hx0 (HG1.out.below hZ.out) (by have := hlst.2 z hz; have := HN.out; omega)))
      have HF : Hid (∀ z, FirstI (nthL W i) (fun x => decide (g x.toNat = -1)) z → ∃ j : Nat, z = (j : Int) ∧ (nthL W i)[j]? = some (ptI W g i)) := Lib.hid (fun z hz => by
        rcases hz with ⟨_, e, _⟩ | ⟨j, e, e2, _⟩
        · exfalso
          have h1 : ptI W g i = -1 := e
          have h2 := hsp.1
          omega
        · exact ⟨j, e, e2⟩)
      have HI2 := Lib.hid (hI2.below hZW)
      obtain ⟨l2, hl2'⟩ : ∃ x, x = (nthL W i).length := ⟨_, rfl⟩
      have HL2 := Lib.hid hl2'
      rw [← hl2'] at KX e2
      have HZW := Lib.hid hZW
      clear hI2 hc2 hl2 hl2' hZW hsp hx0 hlst
      go_wp2_with fail
      refine KX.out.mono ?_
      rintro en3 w3 ⟨⟨z, rfl, hFI⟩, rfl⟩
      obtain ⟨j, rfl, hj⟩ := HF.out z hFI
      have HJ := Lib.hid hj
      have hjl : j < l2 := by rw [HL2.out]; exact (List.getElem?_eq_some_iff.1 hj).1
      obtain ⟨B4, off4, ha4, hc4, -⟩ := HI2.out j _ hj
      subst ha4
      obtain ⟨fq, hfq⟩ : ∃ x, x = ptI W g i := ⟨_, rfl⟩
      have HFQ := Lib.hid hfq
      rw [← hfq] at hc4
      have e4 : wo.cell? ⟨B4, off4 + j, none⟩ = some (.int .i64 fq) := hc4
      have HL1 : Hid (LIo (wo.alloc (Obj.cells #[Value.int .i64 fq] 3)) w1.heap.size u6 (tabI i (ptI W g))) := Lib.hid (hL.out.below ((Below.refl _ _).alloc (Nat.le_refl _) _))
      have HZA : Hid (Below w1.heap.size w1 (wo.alloc (Obj.cells #[Value.int .i64 fq] 3))) := Lib.hid (hZ.out.alloc hZ.out.size _)
      clear hFI hj hc4 hfq KX HF HI2
      go_wp2_with ((with_reducible refine at_append ?_); refine wpList_push_int rfl (.tmp 16) (.tmp 23) rfl w1.heap.size u6 (tabI i (ptI W g)) rfl HL1.out wo.heap.size 1 fq rfl (heap_alloc_new _ _) (by rw [tab_len]; omega) HZA.out.size ?_; intro v2 w2 h1 h2 h3; refine halt ?_)
      refine go_on ?_
      have HL9 : Hid (LIo w2 w1.heap.size v2 (tabI (i + 1) (ptI W g))) := Lib.hid (by rw [tab_succ, ← HFQ.out]; exact h1)
      have HZ9 : Hid (Below w1.heap.size w1 w2) := Lib.hid (h3 _ HZA.out)
      clear h1 h2 h3 HL1 HZA hL hZ e2 e4
      go_wp2_with fail
      go_roundw
      case rel => exact ⟨i + 1, by omega, by go_num, HL9, HZ9⟩
      case measure => simp [intOf]; omega
    · have t0 : decide ((i : Int) < (n : Int)) = false := by simp; omega
      have HL9 : Hid (LIo wo w1.heap.size u6 (tabI n (ptI W g))) := Lib.hid (by have := hL.out; rwa [show i = n by omega] at this)
      obtain ⟨av, cv, rfl⟩ := HL9.out.form
      go_wp2_with fail
      go_ret
      refine ⟨⟨av, cv, by rw [tab_len]; rfl, HL9.out.ints HGR.out, fun x hx => ?_⟩, below_trans HZ1.out hZ.out⟩
      subst hx
      exact Nat.le_trans HZ1.out.size (HL9.out.lt x.block rfl).1
end Go.Proofs.Ytomnnickiljkgaa
