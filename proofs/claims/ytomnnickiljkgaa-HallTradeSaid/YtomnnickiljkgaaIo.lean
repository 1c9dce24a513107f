/- The reference's Objects. -/
import Derived.Test.YtomnnickiljkgaaIn
namespace Go.Proofs.Ytomnnickiljkgaa
open Go.RowKit
attribute [local go_sem ↓] Go.wp_at_zero Go.wp_at_succ
theorem freeU_all {grp : List Nat} (hnd : grp.Nodup) (y : Nat) : freeU grp (List.replicate grp.length false) y = decide (y ∈ grp) := by
  rw [Bool.eq_iff_iff, decide_eq_true_eq]
  constructor
  · intro h
    obtain ⟨k, hk⟩ := freeU_mem h
    exact List.mem_of_getElem? hk
  · intro h
    obtain ⟨k, hk⟩ := List.getElem?_of_mem h
    rw [freeU_at hnd hk, List.getElem?_replicate, if_pos (List.getElem?_eq_some_iff.1 hk).1]
    rfl
theorem memL_eight {n z : Nat} (hn : n ≤ 8) (hz : z < 2 ^ n) : memL 8 (fun i => z.testBit i) = memL n (fun i => z.testBit i) :=
  memL_same (fun j h1 h2 => by
    cases hb : z.testBit j with
    | false => rfl
    | true => exact absurd (group_small hn hz h2 hb) (by omega)) hn
theorem objZ_free {W : List (List Int)} {gl : List Int} {z n : Nat} (hn : n = W.length) (hn8 : n ≤ 8) (hz : z < 2 ^ n) :
    shareB W (gotF gl) (memL n (fun i => z.testBit i)) (freeU (memL n (fun i => z.testBit i)) (List.replicate (memL n (fun i => z.testBit i)).length false)) false = objZ W gl z := by
  unfold objZ
  rw [memL_eight hn8 hz]
  refine shareB_congr (fun y hy => ?_)
  rw [freeU_all (memL_nodup _ _), Bool.eq_iff_iff, decide_eq_true_eq, memL_mem]
  constructor
  · exact fun h => h.2
  · exact fun h => ⟨by omega, h⟩
set_option maxRecDepth 100000 in
set_option maxHeartbeats 8000000 in
theorem objects_w {w : World} {a b c : Option Addr} {W : List (List Int)} {gl : List Int} {n m ca cb cc z : Nat} (hP : RowsF w a W) (hG : IntsF w b gl) (hC : IntsF w c (memI n z)) (hs : SmallL W) (hn : n = W.length) (hn8 : n ≤ 8)
    (hg : gl = tabI n (fun i => ((gotF gl i : Nat) : Int))) (hm : m = (memI n z).length) (hz : z < 2 ^ n) :
    Calls Try.prog 41 #[.slice a n ca, .slice b n cb, .slice c m cc] w fun e w' => e = .returned (.bool (objZ W gl z)) ∧ Below w.heap.size w w' := by
  have hml : m = (memL n (fun i => z.testBit i)).length := by rw [hm]; unfold memI; rw [List.length_map]
  have hm8 : m ≤ 8 := by have := memI_len n z; omega
  have KS := Lib.hid (shares_w (ca := ca) (cb := cb) (cc := cc) hP hG hC (Nat.le_refl w.heap.size) hs hn hg hml hm8 (memL_nodup _ _) (fun x hx => (memL_mem.1 hx).1) m)
  have HO := Lib.hid (objZ_free (gl := gl) hn hn8 hz)
  rw [← hml] at HO
  obtain ⟨oz, hoz⟩ : ∃ x, x = objZ W gl z := ⟨_, rfl⟩
  rw [← hoz] at HO ⊢
  clear hoz hP hG hC hs hn hg hm hml hz
  go_enter Try.func41, Try.ntmps41
  go_wp2_with (at_make; refine wpList_make_bools rfl _ _ _ rfl Try.underlying59 info_bool9 m rfl rfl (by omega) ?_; intro w2 hr2 hb2 hs2; refine halt ?_)
  refine go_on ?_
  have K := KS.out w2 0 (List.replicate m false) false (by omega) hb2 hr2 (List.length_replicate ..)
  rw [List.drop_zero, HO.out] at K
  have KK := Lib.hid K
  have HB := Lib.hid hb2
  clear K hr2 hb2 hs2 KS HO
  go_wp2_with fail
  refine KK.out.mono ?_
  rintro en3 w3 ⟨⟨rfl, _⟩, on3⟩
  have HB3 : Hid (Below w.heap.size w w3) := Lib.hid (below_only HB.out on3 (Nat.le_refl _))
  clear on3
  go_wp2_with fail
  go_ret
  exact ⟨rfl, HB3.out⟩
end Go.Proofs.Ytomnnickiljkgaa
