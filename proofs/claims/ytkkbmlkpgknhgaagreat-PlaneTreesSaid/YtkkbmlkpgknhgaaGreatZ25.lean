import Derived.Test.YtkkbmlkpgknhgaaGreatZ24
import Derived.Deep.RegionHeld3
import Derived.Deep.DrawnRows
import Derived.BigQuiet
import Derived.Deep.Upon
set_option maxRecDepth 100000
set_option maxHeartbeats 16000000
namespace Go.Proofs.YtkkbmlkpgknhgaaGreat
open Go.RowKit
attribute [local go_sem ↓] Go.wp_at_zero Go.wp_at_succ
variable {B T base cc cn fc fn gc gn i m n oc rc rn vc xc xn zc zn : Nat} {Cs : List k9q} {P : Pm} {b v vis z : Int} {bs l vs zs : List Int} {ca fa ga oa ra va xa za : Option Addr} {lim : Option Rat} {lv x0 x1 x2 x3 x4 x5 x6 x7 x8 : Value} {tx tz : List Rat} {w w' w0 : World}
def h6q (w : World) (T base : Nat) (vis : Int) (vs bs : List Int) (n : Nat) (fa : Option Addr) (fn fc : Nat) (ga : Option Addr) (gn gc : Nat) (oa : Option Addr) (rn oc : Nat) (va : Option Addr) (m vc : Nat) (ca : Option Addr) (cn cc : Nat) : Prop :=
 ∃ vva vvc bva bvc, w.heap[T]? = some (.cells #[.int .i64 (n : Nat), .slice fa fn fc, .slice ga gn gc, .slice oa rn oc, .slice va m vc, .slice ca cn cc, .int .i64 vis, .slice vva vs.length vvc, .slice bva bs.length bvc] 99 (0, 0)) ∧ LIo w base (.slice vva vs.length vvc) vs ∧ LIo w base (.slice bva bs.length bvc) bs ∧ (∀ g, (Value.slice vva vs.length vvc).ownBlock = some g → (Value.slice bva bs.length bvc).ownBlock ≠ some g) ∧ T < base ∧ base ≤ w.heap.size
theorem h6q.below (h : h6q w T base vis vs bs n fa fn fc ga gn gc oa rn oc va m vc ca cn cc) (hb : Below w.heap.size w w') : h6q w' T base vis vs bs n fa fn fc ga gn gc oa rn oc va m vc ca cn cc := by
 obtain ⟨vva, vvc, bva, bvc, hT, h1, h2, h3, h4, h5⟩ := h
 exact ⟨vva, vvc, bva, bvc, (hb.block _ (lt_of_block hT)).trans hT, h1.below hb, h2.below hb, h3, h4, Nat.le_trans h5 hb.size⟩
structure Fr9 (T : Nat) (w w' : World) : Prop where
 low : Below T w w'
 row : ∀ k cs t fr, k ≠ T → t ≠ 3 → w.heap[k]? = some (.cells cs t fr) → w'.heap[k]? = some (.cells cs t fr)
theorem Fr9.refl (T : Nat) (w : World) : Fr9 T w w := ⟨Below.refl _ _, fun _ _ _ _ _ _ h => h⟩
theorem Fr9.trans {a b c : World} (h : Fr9 T a b) (k : Fr9 T b c) : Fr9 T a c := ⟨h.low.trans k.low, fun i cs t fr h1 h2 h3 => k.row i cs t fr h1 h2 (h.row i cs t fr h1 h2 h3)⟩
theorem Fr9.of_below (h : Below w.heap.size w w') (hT : T ≤ w.heap.size) : Fr9 T w w' := ⟨h.mono hT, fun i _ _ _ _ _ h3 => (h.block i (lt_of_block h3)).trans h3⟩
theorem Fr9.only (h : z9q T w w') : Fr9 T w w' := ⟨⟨h.os, h.tape, h.output, Nat.le_of_eq h.size.symm, fun k hk => h.block k (by omega)⟩, fun i _ _ _ h1 _ h3 => (h.block i h1).trans h3⟩
theorem Fr9.grown {v : Value} (hl : LIo w base v zs) (hg : w.grownBy w' v.ownBlock) (hTb : T < base) (hT : T ≤ w.heap.size) : Fr9 T w w' := by
 refine ⟨(Below.refl T w).grown hg hT (fun k hk => by have := (hl.lt k hk).1; omega), fun i cs t fr h1 h2 h3 => ?_⟩
 refine (hg.block i (lt_of_block h3) (fun e => ?_)).trans h3
 rcases hl.1.2 with ⟨h0, -⟩ | ⟨g, cap, cur, hv, -, hh, -⟩
 ·
  rw [h0] at e
  simp [Value.ownBlock] at e
 ·
  rw [hv] at e
  have e1 : some i = some g := e
  obtain rfl := Option.some.inj e1
  rw [hh] at h3
  simp only [Option.some.injEq, Obj.cells.injEq] at h3
  exact h2 h3.2.1.symm
def j5h (w : World) (T base : Nat) (vis : Int) (vs bs : List Int) (r : Nat × Bool) (n : Nat) (fa : Option Addr) (fn fc : Nat) (ga : Option Addr) (gn gc : Nat) (oa : Option Addr) (rn oc : Nat) (va : Option Addr) (m vc : Nat) (ca : Option Addr) (cn cc : Nat) (e : Ending) (w' : World) : Prop :=
 e = .returned (.bool r.2) ∧ Fr9 T w w' ∧ ∃ vis', h6q w' T base vis' vs bs n fa fn fc ga gn gc oa rn oc va m vc ca cn cc ∧ (r.2 = true → vis' = vis + (r.1 : Int))
theorem y9y {v : Value} {t : TypeId} (h : w.heap[B]? = some (.cells #[x0, x1, x2, x3, x4, x5, x6, x7, x8] t (0, 0))) :
  (w.setCell ⟨B, 7, none⟩ v).heap[B]? = some (.cells #[x0, x1, x2, x3, x4, x5, x6, v, x8] t (0, 0)) := heap_setCell_same _ _ 7 _ _ _ h
theorem y9v {v : Value} {t : TypeId} (h : w.heap[B]? = some (.cells #[x0, x1, x2, x3, x4, x5, x6, x7, x8] t (0, 0))) :
  (w.setCell ⟨B, 8, none⟩ v).heap[B]? = some (.cells #[x0, x1, x2, x3, x4, x5, x6, x7, v] t (0, 0)) := heap_setCell_same _ _ 8 _ _ _ h
theorem x7y {v : Value} {t : TypeId} (h : w.heap[B]? = some (.cells #[x0, x1, x2, x3, x4, x5, x6, x7, x8] t (0, 0))) :
  (w.setCell ⟨B, 6, none⟩ v).heap[B]? = some (.cells #[x0, x1, x2, x3, x4, x5, v, x7, x8] t (0, 0)) := heap_setCell_same _ _ 6 _ _ _ h
theorem q2z (w : World) (B k : Nat) (v : Value) : z9q B w (w.setCell ⟨B, k, none⟩ v) := (z9q.refl B w).setCell k v
theorem y1w (a : Option Addr) (n n' c : Nat) : (Value.slice a n c).ownBlock = (Value.slice a n' c).ownBlock := by cases a <;> rfl
theorem j0w {c : Nat} {a : Option Addr} (h : LIo w base (.slice a n c) zs) : n ≤ c := by
 rcases h.1.2 with ⟨h0, h1⟩ | ⟨g, cap, cur, hv, -, -, hnc, -⟩
 ·
  simp only [Value.slice.injEq] at h0
  omega
 ·
  simp only [Value.slice.injEq] at hv
  obtain ⟨-, hn, rfl⟩ := hv
  omega
theorem z4x {P : Pm} {l : List Int} {lim : Option Rat} {Cs : List k9q} (hcn9 : cn ≤ 800) (hS : h6q w T base vis vs bs n fa fn fc ga gn gc oa rn oc va m vc ca cn cc) (hi : i < cn) (hnx : g3q cn i z = false) :
  Calls Tryz.prog 106 #[.pointer (some ⟨T, 0, none⟩), .int .i64 i, .int .i64 z, .int .i64 v, .int .i64 b, lv] w fun e w' => e = .returned (.bool false) ∧ Below w.heap.size w w' := by
 obtain ⟨vva, vvc, bva, bvc, hT, -⟩ := hS
 have RT := hdd (q1q hT)
 have x5 := RT.o 5 _ rfl _ qb
 clear hT
 unfold g3q at hnx
 rw [decide_eq_false_iff_not] at hnx
 go_enter Tryz.func106, Tryz.ntmps106
 by_cases h1 : z ≤ (i : Int)
 ·
  have t1 : decide (z ≤ (i : Int)) = true := by simpa using h1
  clear hnx h1
  go_wp2_with fail
  go_ret
  exact ⟨rfl, Below.refl _ _⟩
 ·
  have t1 : decide (z ≤ (i : Int)) = false := by simpa using h1
  have t2 : decide ((cn : Int) ≤ z) = true := by simp; omega
  have t3 : decide (z ≥ (cn : Int)) = true := by simp; omega
  clear hnx h1
  go_wp2_with fail
  go_ret
  exact ⟨rfl, Below.refl _ _⟩
theorem v5k {P : Pm} {l : List Int} {lim : Option Rat} {Cs : List k9q} {r : Nat × Bool} (hb0 : Below w0.heap.size w0 w) (h0T : w0.heap.size ≤ T) (hS : h6q w T base vis vs bs n fa fn fc ga gn gc oa rn oc va m vc ca cn cc) (hlen : vs.length = bs.length) (hl6 : vs.length ≤ 6) (hnx : g3q cn i z = true)
  (hgo : ∀ w', Below w0.heap.size w0 w' → h6q w' T base vis (vs ++ [v]) (bs ++ [b]) n fa fn fc ga gn gc oa rn oc va m vc ca cn cc → Calls Tryz.prog 74 #[.pointer (some ⟨T, 0, none⟩), .int .i64 z, lv] w' (j5h w' T base vis (vs ++ [v]) (bs ++ [b]) r n fa fn fc ga gn gc oa rn oc va m vc ca cn cc)) :
  Calls Tryz.prog 106 #[.pointer (some ⟨T, 0, none⟩), .int .i64 i, .int .i64 z, .int .i64 v, .int .i64 b, lv] w (j5h w T base vis vs bs r n fa fn fc ga gn gc oa rn oc va m vc ca cn cc) := by
 have HGO := hdd hgo
 have HB0 := hdd hb0
 have H0T := hdd h0T
 obtain ⟨vn, hvn⟩ := qx (vs.length)
 have HVN : Hi (vn = vs.length ∧ vn = bs.length ∧ vn ≤ 6) := hdd (by omega)
 have h1 := hS
 obtain ⟨vva, vvc, bva, bvc, hT, hlv, hlb, hap, hTb, hsz⟩ := h1
 rw [← hvn] at hT hlv hap
 rw [← hlen, ← hvn] at hT hlb hap
 have HR := hdd hT
 have HLV := hdd hlv
 have HLB := hdd hlb
 have HAP := hdd hap
 have HTB : Hi (T < base) := hdd hTb
 have HSZ := hdd hsz
 have RT := hdd (q1q hT)
 have x5 := RT.o 5 _ rfl _ qb
 unfold g3q at hnx
 rw [decide_eq_true_eq] at hnx
 have t1 : decide (z ≤ (i : Int)) = false := by simp; omega
 have t2 : decide ((cn : Int) ≤ z) = false := by simp; omega
 have t3 : decide (z ≥ (cn : Int)) = false := by simp; omega
 clear hgo hb0 h0T hT hlv hlb hap hTb hsz hnx hS hvn hlen hl6
 go_enter Tryz.func106, Tryz.ntmps106
 go_wp2_with fail
 clear x5 t1 t2 t3
 go_cut [12] (fun rv wr => rv = .bool false ∧ Hi (h6q wr T base vis (vs ++ [v]) (bs ++ [b]) n fa fn fc ga gn gc oa rn oc va m vc ca cn cc) ∧ Hi (Fr9 T w wr))
 case first =>
  have hr := HR.o
  have hlv := HLV.o
  have hlb := HLB.o
  have hap := HAP.o
  have hsz := HSZ.o
  have hTs : T ≤ w.heap.size := Nat.le_trans (Nat.le_of_lt HTB.o) hsz
  have hz : Fr9 T w w.drew := Fr9.of_below (Below.drew qb) hTs
  have hb9 : Below w.heap.size w w.drew := qb.drew
  have hr := (hb9.block _ (lt_of_block hr)).trans hr
  have hlv := hlv.below hb9
  have hlb := hlb.below hb9
  have hsz : base ≤ w.drew.heap.size := Nat.le_trans hsz hb9.size
  have hTs : T ≤ w.drew.heap.size := Nat.le_trans hTs hb9.size
  clear hb9
  refine k4q [18, 21] (fun w' => w'.cell? ⟨T, 7, none⟩ = some (.slice vva vn vvc) ∧ w'.cell? ⟨T, 8, none⟩ = some (.slice bva vn bvc)) (by kernel_rfl) (by (try dsimp only); exact ⟨q1q hr 7 _ rfl _ qb, q1q hr 8 _ rfl _ qb⟩) (fun hHeld => ?_)
  obtain ⟨wq, hwq⟩ := qx (w.drew)
  rw [← hwq] at hr hlv hlb hsz hTs hz hHeld ⊢
  clear hwq
  refine fp 0 ?_
  refine fp 1 ?_
  refine fp 2 ?_
  refine fp 3 ?_
  refine fp 4 ?_
  refine fp 6 ?_
  refine fp 9 ?_
  refine fp 10 ?_
  refine fp 11 ?_
  refine fp 13 ?_
  refine ft 5 ?_
  refine ft 12 ?_
  refine z8q (rs := [7, 14]) (by kernel_rfl) (by simp) ?_
  refine j1q.cons (o := _) rfl (fun K hK => ?_) ?_
  go_simp
  obtain ⟨wq2, hwq2⟩ := qx (wq.alloc (Obj.cells #[.int .i64 v] 3))
  have hg1 : wq2.heap[wq.heap.size]? = some (.cells #[.int .i64 v] 3 (0, 0)) := by rw [hwq2]; exact heap_alloc_new _ _
  have hbA : Below wq.heap.size wq wq2 := by rw [hwq2]; exact (qb).alloc qm _
  obtain ⟨g1, hgeg1⟩ := qx (wq.heap.size)
  rw [← hgeg1] at hg1 ⊢
  rw [← hwq2]
  clear hwq2
  have hlg1 : wq.heap.size ≤ g1 := Nat.le_of_eq hgeg1.symm
  clear hgeg1
  have hr := (hbA.block _ (lt_of_block hr)).trans hr
  have hlv := hlv.below hbA
  have hlb := hlb.below hbA
  have hsz := Nat.le_trans hsz hbA.size
  have hz := hz.trans (Fr9.of_below hbA hTs)
  have hTs := Nat.le_trans hTs hbA.size
  clear hbA
  obtain ⟨wq, rfl⟩ : ∃ x : World, x = wq2 := ⟨_, rfl⟩
  refine hK.out _ _ (fun _ => ?_) (fun hHeld => ?_)
  ·
   (try dsimp only); exact ⟨q1q hr 7 _ rfl _ qb, q1q hr 8 _ rfl _ qb⟩
  replace hHeld := hHeld (by decide)
  clear hK K
  try refine lyf ?_
  refine z8q (rs := [8, 14]) (by kernel_rfl) (by simp) ?_
  refine j1q.cons (o := _) rfl (fun K hK => ?_) ?_
  rw [if_pos (by kernel_rfl)]
  refine m6q _ _ rfl base (Value.slice vva vn vvc) vs rfl hlv g1 1 v rfl hg1 (by have := HVN.o; omega) hsz ?_
  intro v5 wq hl5 hgr5 hbb5 hat5
  have hr := (hgr5.block _ (lt_of_block hr) (fun e => by have h1 := (hlv.lt _ e.symm).1; have h2 := HTB.o; omega)).trans hr
  have hap5 : ∀ g, v5.ownBlock = some g → (Value.slice bva vn bvc).ownBlock ≠ some g := fun g hg e => by
   rcases hat5 with e5 | e5
   ·
    rw [e5] at hg; exact hap g hg e
   ·
    rw [e5] at hg
    have h1 := Option.some.inj hg
    have h2 := (hlb.lt g e).2
    omega
  have hlb := hlb.keep hgr5 (fun g hg e => hap g e hg)
  have hz := hz.trans (Fr9.grown hlv hgr5 HTB.o hTs)
  have hTs := Nat.le_trans hTs hgr5.size
  have hlv := hl5
  have hap := hap5
  have hsz := Nat.le_trans hsz hgr5.size
  clear hl5 hgr5 hbb5 hat5 hap5 hg1
  refine hK.out _ _ (fun _ => ?_) (fun hHeld => ?_)
  ·
   (try dsimp only); exact ⟨q1q hr 7 _ rfl _ qb, q1q hr 8 _ rfl _ qb⟩
  replace hHeld := hHeld (by decide)
  clear hK K
  try refine lyf ?_
  refine z8q (rs := [14]) (by kernel_rfl) (by simp) ?_
  refine j1q.cons (o := _) rfl (fun K hK => ?_) j1q.nil
  go_simp
  obtain ⟨wq2, hwq2⟩ := qx (wq.alloc (Obj.cells #[.int .i64 b] 3))
  have hg2 : wq2.heap[wq.heap.size]? = some (.cells #[.int .i64 b] 3 (0, 0)) := by rw [hwq2]; exact heap_alloc_new _ _
  have hbA : Below wq.heap.size wq wq2 := by rw [hwq2]; exact (qb).alloc qm _
  obtain ⟨g2, hgeg2⟩ := qx (wq.heap.size)
  rw [← hgeg2] at hg2 ⊢
  rw [← hwq2]
  clear hwq2
  have hlg2 : wq.heap.size ≤ g2 := Nat.le_of_eq hgeg2.symm
  clear hgeg2
  have hr := (hbA.block _ (lt_of_block hr)).trans hr
  have hlv := hlv.below hbA
  have hlb := hlb.below hbA
  have hsz := Nat.le_trans hsz hbA.size
  have hz := hz.trans (Fr9.of_below hbA hTs)
  have hTs := Nat.le_trans hTs hbA.size
  clear hbA
  obtain ⟨wq, rfl⟩ : ∃ x : World, x = wq2 := ⟨_, rfl⟩
  refine hK.out _ _ (fun _ => ?_) (fun hHeld => ?_)
  ·
   (try dsimp only); exact ⟨q1q hr 7 _ rfl _ qb, q1q hr 8 _ rfl _ qb⟩
  replace hHeld := hHeld (by decide)
  clear hK K
  try refine lyf ?_
  rotate_left
  refine j1q.cons (o := _) rfl (fun K hK => ?_) j1q.nil
  go_simp
  obtain ⟨wq2, hwq2⟩ := qx (wq.alloc (Obj.cells #[.int .i64 b] 3))
  have hg2 : wq2.heap[wq.heap.size]? = some (.cells #[.int .i64 b] 3 (0, 0)) := by rw [hwq2]; exact heap_alloc_new _ _
  have hbA : Below wq.heap.size wq wq2 := by rw [hwq2]; exact (qb).alloc qm _
  obtain ⟨g2, hgeg2⟩ := qx (wq.heap.size)
  rw [← hgeg2] at hg2 ⊢
  rw [← hwq2]
  clear hwq2
  have hlg2 : wq.heap.size ≤ g2 := Nat.le_of_eq hgeg2.symm
  clear hgeg2
  have hneg2 : ∀ k, (Value.slice vva vn vvc).ownBlock = some k → k ≠ g2 := fun k hk e => by have := (hlv.lt k hk).2; omega
  have hr := (hbA.block _ (lt_of_block hr)).trans hr
  have hlv := hlv.below hbA
  have hlb := hlb.below hbA
  have hsz := Nat.le_trans hsz hbA.size
  have hz := hz.trans (Fr9.of_below hbA hTs)
  have hTs := Nat.le_trans hTs hbA.size
  have hg1 := (hbA.block _ (lt_of_block hg1)).trans hg1
  clear hbA
  obtain ⟨wq, rfl⟩ : ∃ x : World, x = wq2 := ⟨_, rfl⟩
  refine hK.out _ _ (fun _ => ?_) (fun hHeld => ?_)
  ·
   (try dsimp only); exact ⟨q1q hr 7 _ rfl _ qb, q1q hr 8 _ rfl _ qb⟩
  replace hHeld := hHeld (by decide)
  clear hK K
  try refine lyf ?_
  refine z8q (rs := [8]) (by kernel_rfl) (by simp) ?_
  refine j1q.cons (o := _) rfl (fun K hK => ?_) j1q.nil
  rw [if_pos (by kernel_rfl)]
  refine m6q _ _ rfl base (Value.slice vva vn vvc) vs rfl hlv g1 1 v rfl hg1 (by have := HVN.o; omega) hsz ?_
  intro v5 wq hl5 hgr5 hbb5 hat5
  have hr := (hgr5.block _ (lt_of_block hr) (fun e => by have h1 := (hlv.lt _ e.symm).1; have h2 := HTB.o; omega)).trans hr
  have hap5 : ∀ g, v5.ownBlock = some g → (Value.slice bva vn bvc).ownBlock ≠ some g := fun g hg e => by
   rcases hat5 with e5 | e5
   ·
    rw [e5] at hg; exact hap g hg e
   ·
    rw [e5] at hg
    have h1 := Option.some.inj hg
    have h2 := (hlb.lt g e).2
    omega
  have hlb := hlb.keep hgr5 (fun g hg e => hap g e hg)
  have hz := hz.trans (Fr9.grown hlv hgr5 HTB.o hTs)
  have hTs := Nat.le_trans hTs hgr5.size
  have hlv := hl5
  have hap := hap5
  have hg2 := (hgr5.block _ (lt_of_block hg2) (fun e => hneg2 _ e.symm rfl)).trans hg2
  have hsz := Nat.le_trans hsz hgr5.size
  clear hl5 hgr5 hbb5 hat5 hap5 hg1
  refine hK.out _ _ (fun _ => ?_) (fun hHeld => ?_)
  ·
   (try dsimp only); exact ⟨q1q hr 7 _ rfl _ qb, q1q hr 8 _ rfl _ qb⟩
  replace hHeld := hHeld (by decide)
  clear hK K
  try refine lyf ?_
  rotate_left
  refine j1q.cons (o := _) rfl (fun K hK => ?_) j1q.nil
  go_simp
  obtain ⟨wq2, hwq2⟩ := qx (wq.alloc (Obj.cells #[.int .i64 b] 3))
  have hg2 : wq2.heap[wq.heap.size]? = some (.cells #[.int .i64 b] 3 (0, 0)) := by rw [hwq2]; exact heap_alloc_new _ _
  have hbA : Below wq.heap.size wq wq2 := by rw [hwq2]; exact (qb).alloc qm _
  obtain ⟨g2, hgeg2⟩ := qx (wq.heap.size)
  rw [← hgeg2] at hg2 ⊢
  rw [← hwq2]
  clear hwq2
  have hlg2 : wq.heap.size ≤ g2 := Nat.le_of_eq hgeg2.symm
  clear hgeg2
  have hneg2 : ∀ k, (Value.slice vva vn vvc).ownBlock = some k → k ≠ g2 := fun k hk e => by have := (hlv.lt k hk).2; omega
  have hr := (hbA.block _ (lt_of_block hr)).trans hr
  have hlv := hlv.below hbA
  have hlb := hlb.below hbA
  have hsz := Nat.le_trans hsz hbA.size
  have hz := hz.trans (Fr9.of_below hbA hTs)
  have hTs := Nat.le_trans hTs hbA.size
  clear hbA
  obtain ⟨wq, rfl⟩ : ∃ x : World, x = wq2 := ⟨_, rfl⟩
  refine hK.out _ _ (fun _ => ?_) (fun hHeld => ?_)
  ·
   (try dsimp only); exact ⟨q1q hr 7 _ rfl _ qb, q1q hr 8 _ rfl _ qb⟩
  replace hHeld := hHeld (by decide)
  clear hK K
  try refine lyf ?_
  refine z8q (rs := [7]) (by kernel_rfl) (by simp) ?_
  refine j1q.cons (o := _) rfl (fun K hK => ?_) j1q.nil
  go_simp
  obtain ⟨wq2, hwq2⟩ := qx (wq.alloc (Obj.cells #[.int .i64 v] 3))
  have hg1 : wq2.heap[wq.heap.size]? = some (.cells #[.int .i64 v] 3 (0, 0)) := by rw [hwq2]; exact heap_alloc_new _ _
  have hbA : Below wq.heap.size wq wq2 := by rw [hwq2]; exact (qb).alloc qm _
  obtain ⟨g1, hgeg1⟩ := qx (wq.heap.size)
  rw [← hgeg1] at hg1 ⊢
  rw [← hwq2]
  clear hwq2
  have hlg1 : wq.heap.size ≤ g1 := Nat.le_of_eq hgeg1.symm
  clear hgeg1
  have hr := (hbA.block _ (lt_of_block hr)).trans hr
  have hlv := hlv.below hbA
  have hlb := hlb.below hbA
  have hsz := Nat.le_trans hsz hbA.size
  have hz := hz.trans (Fr9.of_below hbA hTs)
  have hTs := Nat.le_trans hTs hbA.size
  have hg2 := (hbA.block _ (lt_of_block hg2)).trans hg2
  clear hbA
  obtain ⟨wq, rfl⟩ : ∃ x : World, x = wq2 := ⟨_, rfl⟩
  refine hK.out _ _ (fun _ => ?_) (fun hHeld => ?_)
  ·
   (try dsimp only); exact ⟨q1q hr 7 _ rfl _ qb, q1q hr 8 _ rfl _ qb⟩
  replace hHeld := hHeld (by decide)
  clear hK K
  try refine lyf ?_
  refine z8q (rs := [8]) (by kernel_rfl) (by simp) ?_
  refine j1q.cons (o := _) rfl (fun K hK => ?_) j1q.nil
  rw [if_pos (by kernel_rfl)]
  refine m6q _ _ rfl base (Value.slice vva vn vvc) vs rfl hlv g1 1 v rfl hg1 (by have := HVN.o; omega) hsz ?_
  intro v5 wq hl5 hgr5 hbb5 hat5
  have hr := (hgr5.block _ (lt_of_block hr) (fun e => by have h1 := (hlv.lt _ e.symm).1; have h2 := HTB.o; omega)).trans hr
  have hap5 : ∀ g, v5.ownBlock = some g → (Value.slice bva vn bvc).ownBlock ≠ some g := fun g hg e => by
   rcases hat5 with e5 | e5
   ·
    rw [e5] at hg; exact hap g hg e
   ·
    rw [e5] at hg
    have h1 := Option.some.inj hg
    have h2 := (hlb.lt g e).2
    omega
  have hlb := hlb.keep hgr5 (fun g hg e => hap g e hg)
  have hz := hz.trans (Fr9.grown hlv hgr5 HTB.o hTs)
  have hTs := Nat.le_trans hTs hgr5.size
  have hlv := hl5
  have hap := hap5
  have hg2 := (hgr5.block _ (lt_of_block hg2) (fun e => hneg2 _ e.symm rfl)).trans hg2
  have hsz := Nat.le_trans hsz hgr5.size
  clear hl5 hgr5 hbb5 hat5 hap5 hg1
  refine hK.out _ _ (fun _ => ?_) (fun hHeld => ?_)
  ·
   (try dsimp only); exact ⟨q1q hr 7 _ rfl _ qb, q1q hr 8 _ rfl _ qb⟩
  replace hHeld := hHeld (by decide)
  clear hK K
  try refine lyf ?_
  rotate_left
  all_goals
   refine z8q (rs := [15]) (by kernel_rfl) (by simp) ?_
   refine j1q.cons (o := _) rfl (fun K hK => ?_) j1q.nil
   rw [if_pos (by kernel_rfl)]
   refine m6q _ _ rfl base (Value.slice bva vn bvc) bs rfl hlb g2 1 b rfl hg2 (by have := HVN.o; omega) hsz ?_
   intro v6 wq hl6 hgr6 hbb6 hat6
   have hr := (hgr6.block _ (lt_of_block hr) (fun e => by have h1 := (hlb.lt _ e.symm).1; have h2 := HTB.o; omega)).trans hr
   have hap6 : ∀ g, v5.ownBlock = some g → v6.ownBlock ≠ some g := fun g hg e => by
    rcases hat6 with e5 | e5
    ·
     rw [e5] at e; exact hap g hg e
    ·
     rw [e5] at e
     have h1 := Option.some.inj e
     have h2 := (hlv.lt g hg).2
     omega
   have hlv := hlv.keep hgr6 (fun g hg e => hap g hg e)
   have hz := hz.trans (Fr9.grown hlb hgr6 HTB.o hTs)
   have hTs := Nat.le_trans hTs hgr6.size
   have hsz := Nat.le_trans hsz hgr6.size
   have hlb := hl6
   clear hl6 hgr6 hbb6 hat6 hap hg2
   refine hK.out _ _ (fun _ => ?_) (fun hHeld => ?_)
   ·
    (try dsimp only); exact ⟨q1q hr 7 _ rfl _ qb, q1q hr 8 _ rfl _ qb⟩
   replace hHeld := hHeld (by decide)
   clear hK K
   try refine lyf ?_
   obtain ⟨na, nc, rfl⟩ := hlv.form
   obtain ⟨nb, nd, rfl⟩ := hlb.form
   have e1 : (vs ++ [v]).length = vn + 1 := by rw [List.length_append, List.length_singleton, ← HVN.o.1]
   have e2 : (bs ++ [b]).length = vn + 1 := by rw [List.length_append, List.length_singleton, ← HVN.o.2.1]
   simp only [e1, e2] at hlv hlb hap6 ⊢
   refine fp 16 ?_
   refine fp 17 ?_
   refine z8q (rs := [18]) (by kernel_rfl) (by simp) (j1q.cons (o := _) rfl (fun K hK => ?_) j1q.nil)
   have g7 := q1q hr 7 _ rfl _ qb
   have g8 := frozen_of_row _ _ 7 _ _ hr
   go_simp
   refine hK.out _ _ (fun h => absurd h (by decide)) (fun _ => ?_)
   clear hK K
   try refine lyf ?_
   have hon := q2z wq T 7 (Value.slice na (vn + 1) nc)
   have hr := y9y (v := Value.slice na (vn + 1) nc) hr
   have hlv := hlv.other hon HTB.o
   have hlb := hlb.other hon HTB.o
   have hz := hz.trans (Fr9.only hon)
   have hsz : base ≤ (wq.setCell ⟨T, 7, none⟩ (Value.slice na (vn + 1) nc)).heap.size := by rw [hon.size]; exact hsz
   obtain ⟨w7, hw7⟩ := qx (wq.setCell ⟨T, 7, none⟩ (Value.slice na (vn + 1) nc))
   rw [← hw7] at hr hlv hlb hz hsz ⊢
   clear hw7 hon g7 g8
   refine fp 19 ?_
   refine fp 20 ?_
   refine z8q (rs := [21]) (by kernel_rfl) (by simp) (j1q.cons (o := _) rfl (fun K hK => ?_) j1q.nil)
   have g7 := q1q hr 8 _ rfl _ qb
   have g8 := frozen_of_row _ _ 8 _ _ hr
   go_simp
   refine hK.out _ _ (fun h => absurd h (by decide)) (fun _ => ?_)
   clear hK K
   try refine lyf ?_
   have hon := q2z w7 T 8 (Value.slice nb (vn + 1) nd)
   have hr := y9v (v := Value.slice nb (vn + 1) nd) hr
   have hlv := hlv.other hon HTB.o
   have hlb := hlb.other hon HTB.o
   have hz := hz.trans (Fr9.only hon)
   have hsz : base ≤ (w7.setCell ⟨T, 8, none⟩ (Value.slice nb (vn + 1) nd)).heap.size := by rw [hon.size]; exact hsz
   refine n6q (by kernel_rfl) ?_ _
   go_wp2_with fail
   go_meet
   exact ⟨rfl, hdd ⟨na, nc, nb, nd, by rw [e1, e2]; exact hr, by rw [e1]; exact hlv, by rw [e2]; exact hlb, by rw [e1, e2]; exact hap6, HTB.o, hsz⟩, hdd hz⟩
 case rest =>
  obtain ⟨w3, rfl⟩ : ∃ w8 : World, w8 = wc := ⟨_, rfl⟩
  obtain ⟨rfl, HS3, HZ3⟩ := hcut
  have KV := hdd (HGO.o w3 (HB0.o.trans (HZ3.o.low.mono H0T.o)) HS3.o)
  clear HS3 HGO
  obtain ⟨rb, hrb⟩ := qx (r.2)
  go_wp2_with fail
  refine KV.o.mono ?_
  rintro en4 w4 ⟨rfl, hb4, vis4, hS4, hv4⟩
  rw [← hrb] at hv4 ⊢
  have HRB := hdd hrb
  have HV4 := hdd hv4
  have HZ4 := hdd (HZ3.o.trans hb4)
  clear hv4 hb4 KV hrb
  obtain ⟨na, nc, nb, nd, hT4, hlv4, hlb4, hap4, hTb4, hsz4⟩ := hS4
  have e1 : (vs ++ [v]).length = vn + 1 := by rw [List.length_append, List.length_singleton, ← HVN.o.1]
  have e2 : (bs ++ [b]).length = vn + 1 := by rw [List.length_append, List.length_singleton, ← HVN.o.2.1]
  rw [e1] at hT4 hlv4 hap4
  rw [e2] at hT4 hlb4 hap4
  clear e1 e2
  have hvc9 : vn ≤ nc ∧ vn + 1 ≤ nc := by have := j0w hlv4; omega
  have hbc9 : vn ≤ nd ∧ vn + 1 ≤ nd := by have := j0w hlb4; omega
  have hlp := (LIo.pop hlv4).1
  have hbp := (LIo.pop hlb4).1
  have HLV4 := hdd hlp
  have HLB4 := hdd hbp
  have HAP4 : Hi (∀ g, (Value.slice na vn nc).ownBlock = some g → (Value.slice nb vn nd).ownBlock ≠ some g) := hdd (fun g hg e => hap4 g ((y1w na _ _ nc).trans hg) ((y1w nb _ _ nd).trans e))
  have HR4 := hdd hT4
  have HSZ4 := hdd hsz4
  have RT4 := hdd (q1q hT4)
  obtain ⟨hvc1, hvc2⟩ := hvc9
  obtain ⟨hbc1, hbc2⟩ := hbc9
  have hw9 : IntKind.i64.wrap (vn : Int) = (vn : Int) := IntWalk.i64_in _ (by have := HVN.o; omega)
  clear hT4 hlv4 hlb4 hap4 hTb4 hsz4 hlp hbp
  go_wp2_with fail
  have hz : Fr9 T w4 w4.drew := Fr9.of_below (Below.drew qb) (Nat.le_trans (Nat.le_of_lt HTB.o) HSZ4.o)
  have hb9 : Below w4.heap.size w4 w4.drew := qb.drew
  have hr := (hb9.block _ (lt_of_block HR4.o)).trans HR4.o
  have hlv := HLV4.o.below hb9
  have hlb := HLB4.o.below hb9
  have hsz := HSZ4.o
  refine k4q [26, 29] (fun w' => w'.cell? ⟨T, 7, none⟩ = some (.slice na (vn + 1) nc) ∧ w'.cell? ⟨T, 8, none⟩ = some (.slice nb (vn + 1) nd)) (by kernel_rfl) (by (try dsimp only); exact ⟨q1q hr 7 _ rfl _ qb, q1q hr 8 _ rfl _ qb⟩) (fun hHeld => ?_)
  obtain ⟨w5, hw5⟩ := qx (w4.drew)
  have hsz : base ≤ w5.heap.size := by rw [hw5]; exact Nat.le_trans hsz hb9.size
  rw [← hw5] at hr hlv hlb hz hHeld ⊢
  clear hw5 hb9
  refine fp 0 ?_
  refine fp 1 ?_
  refine fp 2 ?_
  refine fp 3 ?_
  refine fp 4 ?_
  refine fp 6 ?_
  refine fp 7 ?_
  refine fp 8 ?_
  refine fp 13 ?_
  refine fp 14 ?_
  refine fp 15 ?_
  refine fp 17 ?_
  refine fp 18 ?_
  refine fp 19 ?_
  refine ft 5 ?_
  refine ft 9 ?_
  refine fp 10 ?_
  refine fp 11 ?_
  refine fp 12 ?_
  refine ft 16 ?_
  refine ft 20 ?_
  refine fp 21 ?_
  refine fp 22 ?_
  refine fp 23 ?_
  refine fp 24 ?_
  refine fp 25 ?_
  refine z8q (rs := [26]) (by kernel_rfl) (by simp) (j1q.cons (o := _) rfl (fun K hK => ?_) j1q.nil)
  have g7 := q1q hr 7 _ rfl _ qb
  have g8 := frozen_of_row _ _ 7 _ _ hr
  go_simp
  refine hK.out _ _ (fun h => absurd h (by decide)) (fun _ => ?_)
  clear hK K
  try refine lyf ?_
  clear hHeld
  have hon := q2z w5 T 7 (Value.slice na vn nc)
  have hr := y9y (v := Value.slice na vn nc) hr
  have hlv := hlv.other hon HTB.o
  have hlb := hlb.other hon HTB.o
  have hz := hz.trans (Fr9.only hon)
  have hsz : base ≤ (w5.setCell ⟨T, 7, none⟩ (Value.slice na vn nc)).heap.size := by rw [hon.size]; exact hsz
  obtain ⟨w7, hw7⟩ := qx (w5.setCell ⟨T, 7, none⟩ (Value.slice na vn nc))
  rw [← hw7] at hr hlv hlb hz hsz ⊢
  clear hw7 hon g7 g8
  refine fp 27 ?_
  refine fp 28 ?_
  refine z8q (rs := [29]) (by kernel_rfl) (by simp) (j1q.cons (o := _) rfl (fun K hK => ?_) j1q.nil)
  have g7 := q1q hr 8 _ rfl _ qb
  have g8 := frozen_of_row _ _ 8 _ _ hr
  go_simp
  refine hK.out _ _ (fun h => absurd h (by decide)) (fun _ => ?_)
  clear hK K
  try refine lyf ?_
  have hon := q2z w7 T 8 (Value.slice nb vn nd)
  have hr := y9v (v := Value.slice nb vn nd) hr
  have hlv := hlv.other hon HTB.o
  have hlb := hlb.other hon HTB.o
  have hz := hz.trans (Fr9.only hon)
  have hsz : base ≤ (w7.setCell ⟨T, 8, none⟩ (Value.slice nb vn nd)).heap.size := by rw [hon.size]; exact hsz
  refine n6q (by kernel_rfl) ?_ _
  go_wp2_with fail
  go_ret
  exact ⟨by rw [HRB.o]; first | done | rfl, HZ4.o.trans hz, vis4, ⟨na, nc, nb, nd, by rw [← HVN.o.1, ← HVN.o.2.1]; exact hr, by rw [← HVN.o.1]; exact hlv, by rw [← HVN.o.2.1]; exact hlb, by rw [← HVN.o.1, ← HVN.o.2.1]; exact HAP4.o, HTB.o, hsz⟩, fun h => HV4.o (by rw [HRB.o]; exact h)⟩
theorem g6k : (Tryz.prog.info? 68).map (·.size) = some 7 := by kernel_rfl
theorem y3k (h : l.contains v = false) : t2q l vs v = false := by unfold t2q; rw [h]; rfl
theorem y3w (h : vs.contains v = true) : t2q l vs v = false := by unfold t2q; rw [h]; simp
theorem y3h (h : l.contains v = true) (h2 : vs.contains v = false) : t2q l vs v = true := by unfold t2q; rw [h, h2]; rfl
theorem j2h (h : bs.any j6j = false) : ∀ z ∈ bs, -9223372036854775808 ≤ z ∧ z ≤ 9223372036854775807 := fun z hz => by
 obtain ⟨i, hi⟩ := List.getElem?_of_mem hz
 have := v4k h hi
 omega
theorem z6w (h : okV P.vars vs = true) (hP : P.vars ≤ 8) : ∀ z ∈ vs, -9223372036854775808 ≤ z ∧ z ≤ 9223372036854775807 := fun z hz => by
 obtain ⟨i, hi⟩ := List.getElem?_of_mem hz
 have := l6q h hi
 omega
theorem h6q.ints (h : h6q w T base vis vs bs n fa fn fc ga gn gc oa rn oc va m vc ca cn cc) (hw : Way P l vs bs) (ht : q5z P l) :
  ∃ vva vvc bva bvc, w.heap[T]? = some (.cells #[.int .i64 (n : Nat), .slice fa fn fc, .slice ga gn gc, .slice oa rn oc, .slice va m vc, .slice ca cn cc, .int .i64 vis, .slice vva vs.length vvc, .slice bva bs.length bvc] 99 (0, 0)) ∧ v8q w vva vs ∧ v8q w bva bs := by
 obtain ⟨vva, vvc, bva, bvc, hT, h1, h2, -⟩ := h
 exact ⟨vva, vvc, bva, bvc, hT, h1.ints (z6w hw.ok ht.vars), h2.ints (j2h hw.bit)⟩
theorem h6q.more (h : h6q w T base vis vs bs n fa fn fc ga gn gc oa rn oc va m vc ca cn cc) (u : Int) : h6q (w.setCell ⟨T, 6, none⟩ (.int .i64 u)) T base u vs bs n fa fn fc ga gn gc oa rn oc va m vc ca cn cc ∧ Fr9 T w (w.setCell ⟨T, 6, none⟩ (.int .i64 u)) := by
 obtain ⟨vva, vvc, bva, bvc, hT, h1, h2, h3, h4, h5⟩ := h
 have hon := q2z w T 6 (.int .i64 u)
 exact ⟨⟨vva, vvc, bva, bvc, x7y hT, h1.other hon h4, h2.other hon h4, h3, h4, by rw [hon.size]; exact h5⟩, Fr9.only hon⟩
theorem g5v (h : j2v w0 P l lim Cs lv n fa fn fc ga gn gc oa rn oc va m vc ca cn cc) (h0T : w0.heap.size ≤ T) : ∀ (f i m9 : Nat) (vs bs : List Int) (vis : Int) (w : World), Below w0.heap.size w0 w → h6q w T base vis vs bs n fa fn fc ga gn gc oa rn oc va m vc ca cn cc → i < cn → cn - i ≤ f → vis + (m9 : Int) = (cn : Int) → 0 ≤ vis → Way P l vs bs →
  Calls Tryz.prog 74 #[.pointer (some ⟨T, 0, none⟩), .int .i64 i, lv] w (j5h w T base vis vs bs (u6q P l lim Cs f i m9 vs bs) n fa fn fc ga gn gc oa rn oc va m vc ca cn cc) := by
 have HELD := hdd h
 have H0T := hdd h0T
 obtain ⟨-, -, ⟨-, hm⟩, ⟨-, hcn, hcn8⟩, -, htask⟩ := h
 have HT := hdd htask
 have HCN : Hi (cn = Cs.length ∧ cn ≤ 800) := hdd ⟨hcn, hcn8⟩
 have HM : Hi (m = l.length) := hdd hm
 clear h0T htask hcn hm
 intro f
 induction f with
 | zero => intro i m9 vs bs vis w _ _ hi hf; omega
 | succ f ih =>
 intro i m9 vs bs vis w hb0 hS hi hf hvm hv0 hway
 have IH := hdd ih
 have HI : Hi (i < cn ∧ cn - i ≤ f + 1) := hdd ⟨hi, hf⟩
 have HVM : Hi (vis + (m9 : Int) = (cn : Int) ∧ 0 ≤ vis) := hdd ⟨hvm, hv0⟩
 have HWAY := hdd hway
 have HB0 := hdd hb0
 have HS := hdd hS
 have HTL : Hi (T ≤ w.heap.size) := hdd (by obtain ⟨_, _, _, _, hT, -⟩ := hS; exact Nat.le_of_lt (lt_of_block hT))
 clear ih hf hvm hv0 hway hb0
 obtain ⟨vva, vvc, bva, bvc, hT, -⟩ := hS
 have x6 := q1q hT 6 _ rfl _ qb
 have x69 := frozen_of_row _ _ 6 _ _ hT
 have hw9 : IntKind.i64.wrap (vis + 1) = vis + 1 := by have := HVM.o; exact IntWalk.i64_in _ (by omega)
 clear hT
 go_enter Tryz.func74, Tryz.ntmps74
 go_wp2_with fail
 obtain ⟨hS2, hz2⟩ := h6q.more HS.o (vis + 1)
 obtain ⟨w2, hw2⟩ := qx (w.setCell ⟨T, 6, none⟩ (.int .i64 (vis + 1)))
 rw [← hw2] at hS2 hz2 ⊢
 have HS2 := hdd hS2
 have HZ2 := hdd hz2
 clear hw2 x6 x69 hw9 hz2 hi
 obtain ⟨vva2, vvc2, bva2, bvc2, hT2, hV2, hB2⟩ := h6q.ints hS2 HWAY.o HT.o
 have RT := hdd (q1q hT2)
 have HV2 := hdd hV2
 have HB2 := hdd hB2
 have HT2 := hdd hT2
 clear hS2 hT2 hV2 hB2
 have x2 := RT.o 5 _ rfl _ (Below.refl w2.heap.size w2)
 have x6 := RT.o 6 _ rfl _ (Below.refl w2.heap.size w2)
 have HTL2 : Hi (T < w2.heap.size) := hdd (lt_of_block HT2.o)
 by_cases hm0 : m9 = 0
 ·
  have t1 : decide (vis + 1 > (cn : Int)) = true := by have := HVM.o; simp; omega
  have t2 : decide ((cn : Int) < vis + 1) = true := by have := HVM.o; simp; omega
  go_wp2_with fail
  go_quiet (fail)
  go_wp2_with fail
  go_ret
  rw [hm0, v8v]
  exact ⟨rfl, HZ2.o.trans (Fr9.of_below (q5q qb _) (Nat.le_of_lt HTL2.o)), _, HS2.o.below (q5q qb _), fun h => by cases h⟩
 have t1 : decide (vis + 1 > (cn : Int)) = false := by have := HVM.o; simp; omega
 have t2 : decide ((cn : Int) < vis + 1) = false := by have := HVM.o; simp; omega
 have HM0 : Hi (m9 ≠ 0) := hdd hm0
 clear hm0
 go_wp2_with fail
 go_quiet (fail)
 obtain ⟨w3, hw3⟩ := qx (w2.drewN nq)
 have HB3 : Hi (Below w2.heap.size w2 w3) := hdd (by rw [hw3]; exact q5q qb _)
 rw [← hw3]
 have x2 := RT.o 5 _ rfl _ HB3.o
 clear hw3 t1 t2 x6
 obtain ⟨cq, hcq⟩ : ∃ c, Cs[i]? = some c := ⟨_, List.getElem?_eq_getElem (by have := HCN.o; have := HI.o; omega)⟩
 have HCQ := hdd hcq
 obtain ⟨CB, coff, xa, xc, ya, yc, za, zc, hca, hcf, hcl, hr1, hr2, hr3, hcell⟩ := HELD.o.2.2.2.1.1 i cq hcq
 subst hca
 have hb03 : Below w0.heap.size w0 w3 := HB0.o.trans ((HZ2.o.low.mono H0T.o).trans (HB3.o.mono (Nat.le_trans H0T.o (Nat.le_of_lt HTL2.o))))
 have HB03 := hdd hb03
 have HCF := hdd (hcf.below hb03)
 have f0 := q3q hb03 (hcell 0 _ rfl)
 have f1 := q3q hb03 (hcell 1 _ rfl)
 have f2 := q3q hb03 (hcell 2 _ rfl)
 have f3 := q3q hb03 (hcell 3 _ rfl)
 have f4 := q3q hb03 (hcell 4 _ rfl)
 have f5 := q3q hb03 (hcell 5 _ rfl)
 have f6 := q3q hb03 (hcell 6 _ rfl)
 simp only [Nat.add_zero] at f0
 have t0 : decide ((i : Int) < (cn : Int)) = true := by have := HI.o; simp; omega
 have hin : i < cn := HI.o.1
 have HCL := hdd hcl
 have HRNG := hdd (And.intro hr1 (And.intro hr2 hr3))
 clear hcq hcf hcl hr1 hr2 hr3 hcell hb03
 obtain ⟨cvar, hcvar⟩ := qx (cq.var)
 obtain ⟨czero, hczero⟩ := qx (cq.zero)
 obtain ⟨cone, hcone⟩ := qx (cq.one)
 obtain ⟨ck, hck⟩ := qx (cq.kind)
 obtain ⟨xn, hxn⟩ := qx (cq.xs.length)
 obtain ⟨yn, hyn⟩ := qx (cq.ys.length)
 obtain ⟨zn, hzn⟩ := qx (cq.zs.length)
 rw [← hcvar] at f0 HRNG
 rw [← hczero] at f1 HRNG
 rw [← hcone] at f2 HRNG
 rw [← hck] at f3 HCF
 rw [← hxn] at f4 HCF
 rw [← hyn] at f5 HCF
 rw [← hzn] at f6 HCF
 have HNM := hdd (And.intro hcvar (And.intro hczero (And.intro hcone hck)))
 clear hcvar hczero hcone hck hxn hyn hzn
 go_wp2_with ((with_reducible refine j9q ?_); refine q6q rfl _ _ _ rfl w3.heap.size rfl _ rfl _ _ (heap_alloc_new _ _) g6k rfl y4v ?_; intro w5 h5 hon5; refine y0q ?_)
 have hb5 : Below w3.heap.size w3 w5 := q4q ((qb).alloc qm _) hon5 qm
 have HB5 := hdd hb5
 have HH5 := hdd h5
 have RC := hdd (q1q h5)
 have HB25 := hdd (q0q HB3.o hb5)
 have HZ5 : Hi (Fr9 T w w5) := hdd (HZ2.o.trans (Fr9.of_below HB25.o (Nat.le_of_lt HTL2.o)))
 have HS5 := hdd (HS2.o.below HB25.o)
 have HB05 : Hi (Below w0.heap.size w0 w5) := hdd (HB0.o.trans (HZ5.o.low.mono H0T.o))
 have HCB : Hi (w3.heap.size ≠ T) := hdd (by have h1 := HTL2.o; have h2 := HB3.o.size; omega)
 clear h5 hon5 hb5 f0 f1 f2 f3 f4 f5 f6 x2 t0
 refine z2q ?_
 have y0 := RC.o 0 _ rfl _ qb
 by_cases hvar : cvar = -1
 ·
  subst hvar
  have y3 := RC.o 3 _ rfl _ qb
  have y4 := RC.o 4 _ rfl _ qb
  have y5 := RC.o 5 _ rfl _ qb
  have y6 := RC.o 6 _ rfl _ qb
  have KC := hdd (x3x (cq := cq) (HELD.o.below HB05.o) ((HB25.o.block _ HTL2.o).trans HT2.o) (HV2.o.below HB25.o) (HB2.o.below HB25.o) rfl rfl HWAY.o (HCF.o.below HB5.o) HCL.o.1 HCL.o.2 HNM.o.2.2.2.symm rfl rfl rfl)
  obtain ⟨q9, hq9⟩ := qx (s0q (u7q P l vs bs) lim cq)
  rw [← hq9] at KC
  have HQ9 := hdd hq9
  clear hq9
  go_wp2_with fail
  refine KC.o.mono ?_
  rintro en6 w6 ⟨rfl, hb6⟩
  go_wp2_with fail
  go_ret
  rw [z6h HM0.o HCQ.o HNM.o.1.symm]
  exact ⟨by rw [HQ9.o]; first | done | rfl, HZ5.o.trans (Fr9.of_below hb6 (Nat.le_trans (Nat.le_of_lt HTL2.o) HB25.o.size)), _, HS5.o.below hb6, fun _ => rfl⟩
 have t4 : (cvar == -1) = false := by simpa using hvar
 have HVN : Hi (cq.var ≠ -1) := hdd (by rw [← HNM.o.1]; exact hvar)
 clear hvar
 have KW := hdd (fun w' (hb : Below w5.heap.size w5 w') => z4z (w := w') (v := cvar) (c := vc) (HELD.o.2.2.1.1.below (HB05.o.trans (hb.mono HB05.o.size))) HM.o (by have := HM.o; have := HT.o.len; omega))
 have KV := hdd (fun w' (hb : Below w5.heap.size w5 w') => z4z (w := w') (v := cvar) (c := vvc2) (HV2.o.below (q0q HB25.o hb)) rfl (by have := HWAY.o.few; have := HT.o.len; omega))
 obtain ⟨wb, hwb⟩ := qx (l.contains cvar)
 obtain ⟨vb, hvb⟩ := qx (vs.contains cvar)
 rw [← hwb] at KW
 rw [← hvb] at KV
 have HWB := hdd hwb
 have HVB := hdd hvb
 have HT5 := hdd ((HB25.o.block _ HTL2.o).trans HT2.o)
 have RT5 := hdd (q1q HT5.o)
 clear hwb hvb
 have hz0 : Below w5.heap.size w5 w5.drew := Below.drew qb
 go_wp2_with fail
 clear y0
 cases wb with
 | false =>
  refine k4q [] (fun w' => w'.cell? ⟨T, 4, none⟩ = some (.slice va m vc) ∧ w'.cell? ⟨T, 7, none⟩ = some (.slice vva2 vs.length vvc2) ∧ w'.cell? ⟨w3.heap.size, 0, none⟩ = some (.int .i64 cvar)) (by kernel_rfl) (by (try dsimp only); refine ⟨?_, ?_, ?_⟩ <;> (first | exact RT5.o _ _ rfl _ (by assumption) | exact RC.o _ _ rfl _ (by assumption))) (fun hHeld => ?_)
  refine fp 0 ?_
  refine fp 1 ?_
  refine fp 2 ?_
  refine ft 3 ?_
  refine fp 4 ?_
  refine ft 5 ?_
  refine z8q (rs := [6]) (by kernel_rfl) (by simp) (j1q.cons (o := _) rfl (fun K hK => ?_) j1q.nil)
  go_simp
  refine (KW.o _ hz0).mono ?_
  rintro en4 w4 ⟨rfl, hb4⟩
  have hz4 := q0q hz0 hb4
  try go_wp2_with fail
  refine hK.out _ _ (fun _ => ?_) (fun hHeld => ?_)
  ·
   (try dsimp only); refine ⟨?_, ?_, ?_⟩ <;> (first | exact RT5.o _ _ rfl _ (by assumption) | exact RC.o _ _ rfl _ (by assumption))
  replace hHeld := hHeld (by decide)
  clear hK K
  try refine lyf ?_
  refine fp 7 ?_
  refine fp 8 ?_
  refine fn9 9 ?_
  refine fn9 10 ?_
  refine fn9 11 ?_
  refine fn9 12 ?_
  refine fn9 13 ?_
  refine fn9 14 ?_
  refine fn9 15 ?_
  refine fp 16 ?_
  refine n6q (by kernel_rfl) ?_ _
  go_wp2_with fail
  go_ret
  rw [m1q HM0.o HCQ.o HVN.o (by rw [y3k (by rw [← HNM.o.1]; exact HWB.o.symm)]; rfl)]
  exact ⟨rfl, HZ5.o.trans (Fr9.of_below hz4 (Nat.le_trans (Nat.le_of_lt HTL2.o) HB25.o.size)), _, HS5.o.below hz4, fun h => by cases h⟩
 | true =>
  refine k4q [] (fun w' => w'.cell? ⟨T, 4, none⟩ = some (.slice va m vc) ∧ w'.cell? ⟨T, 7, none⟩ = some (.slice vva2 vs.length vvc2) ∧ w'.cell? ⟨w3.heap.size, 0, none⟩ = some (.int .i64 cvar)) (by kernel_rfl) (by (try dsimp only); refine ⟨?_, ?_, ?_⟩ <;> (first | exact RT5.o _ _ rfl _ (by assumption) | exact RC.o _ _ rfl _ (by assumption))) (fun hHeld => ?_)
  refine fp 0 ?_
  refine fp 1 ?_
  refine fp 2 ?_
  refine ft 3 ?_
  refine fp 4 ?_
  refine ft 5 ?_
  refine z8q (rs := [6]) (by kernel_rfl) (by simp) (j1q.cons (o := _) rfl (fun K hK => ?_) j1q.nil)
  go_simp
  refine (KW.o _ hz0).mono ?_
  rintro en4 w4 ⟨rfl, hb4⟩
  have hz4 := q0q hz0 hb4
  try go_wp2_with fail
  refine hK.out _ _ (fun _ => ?_) (fun hHeld => ?_)
  ·
   (try dsimp only); refine ⟨?_, ?_, ?_⟩ <;> (first | exact RT5.o _ _ rfl _ (by assumption) | exact RC.o _ _ rfl _ (by assumption))
  replace hHeld := hHeld (by decide)
  clear hK K
  try refine lyf ?_
  refine fp 7 ?_
  refine fp 8 ?_
  refine fp 9 ?_
  refine fp 10 ?_
  refine fp 11 ?_
  refine ft 12 ?_
  refine fp 13 ?_
  refine ft 14 ?_
  refine z8q (rs := [15]) (by kernel_rfl) (by simp) (j1q.cons (o := _) rfl (fun K hK => ?_) j1q.nil)
  go_simp
  refine (KV.o _ hz4).mono ?_
  rintro en7 w7 ⟨rfl, hb7⟩
  have hz7 := q0q hz4 hb7
  try go_wp2_with fail
  refine hK.out _ _ (fun _ => ?_) (fun hHeld => ?_)
  ·
   (try dsimp only); refine ⟨?_, ?_, ?_⟩ <;> (first | exact RT5.o _ _ rfl _ (by assumption) | exact RC.o _ _ rfl _ (by assumption))
  replace hHeld := hHeld (by decide)
  clear hK K
  try refine lyf ?_
  refine fp 16 ?_
  refine n6q (by kernel_rfl) ?_ _
  have HZ58 := hdd hz7
  obtain ⟨w8, hw8⟩ := qx (w7 : World)
  rw [← hw8] at HZ58 ⊢
  clear hHeld hw8 hz0 hz4 hz7 hb4 hb7
  have HZ8 : Hi (Fr9 T w w8) := hdd (HZ5.o.trans (Fr9.of_below HZ58.o (Nat.le_trans (Nat.le_of_lt HTL2.o) HB25.o.size)))
  have HS8 := hdd (HS5.o.below HZ58.o)
  have HC8 := hdd ((HZ58.o.block _ (lt_of_block HH5.o)).trans HH5.o)
  have HB08 : Hi (Below w0.heap.size w0 w8) := hdd (HB0.o.trans (HZ8.o.low.mono H0T.o))
  cases vb with
  | true =>
   go_wp2_with fail
   go_ret
   rw [m1q HM0.o HCQ.o HVN.o (by rw [y3w (by rw [← HNM.o.1]; exact HVB.o.symm)]; rfl)]
   exact ⟨rfl, HZ8.o, _, HS8.o, fun h => by cases h⟩
  | false =>
  have HASK : Hi (t2q l vs cq.var = true) := hdd (by rw [← HNM.o.1]; exact y3h HWB.o.symm HVB.o.symm)
  have HWP : ∀ b : Int, b = 0 ∨ b = 1 → Way P l (vs ++ [cvar]) (bs ++ [b]) := fun b hb => HWAY.o.push HT.o.ok (by rw [HNM.o.1]; exact HASK.o) hb
  have HWPH := hdd HWP
  have hl6 : vs.length ≤ 6 := by have := HWAY.o.few; have := HT.o.len; omega
  have HL6 := hdd hl6
  clear HWP hl6
  have RC8 := hdd (q1q HC8.o)
  have y0 := RC8.o 0 _ rfl _ qb
  have y1 := RC8.o 1 _ rfl _ qb
  cases hn0 : g3q cn i czero with
  | false =>
   have KE := hdd (z4x (P := P) (l := l) (lim := lim) (Cs := Cs) (lv := lv) (v := cvar) (b := 0) HCN.o.2 HS8.o HI.o.1 hn0)
   have HN0 := hdd hn0
   clear hn0
   go_wp2_with fail
   refine KE.o.mono ?_
   rintro en9 w9 ⟨rfl, hb9⟩
   go_wp2_with fail
   go_ret
   rw [m1q HM0.o HCQ.o HVN.o (by rw [← HNM.o.2.1, ← HCN.o.1, HN0.o]; simp)]
   exact ⟨rfl, HZ8.o.trans (Fr9.of_below hb9 (Nat.le_trans HTL.o HZ8.o.low.size)), _, HS8.o.below hb9, fun h => by cases h⟩
  | true =>
  have HN0 := hdd hn0
  have hz : (i : Int) < czero ∧ czero < cn := by unfold g3q at hn0; rwa [decide_eq_true_eq] at hn0
  have hzt : ((czero.toNat : Nat) : Int) = czero := Int.toNat_of_nonneg (by omega)
  obtain ⟨r0, hr0⟩ := qx (u6q P l lim Cs f czero.toNat (m9 - 1) (vs ++ [cvar]) (bs ++ [0]))
  have KE := hdd (v5k (r := r0) (P := P) (l := l) (lim := lim) (Cs := Cs) (v := cvar) (b := 0) HB08.o H0T.o HS8.o HWAY.o.len HL6.o hn0 (fun w' hb hS' => by
   have h1 := IH.o czero.toNat (m9 - 1) (vs ++ [cvar]) (bs ++ [0]) (vis + 1) w' hb hS' (by omega) (by have := HI.o; omega) (by have := HVM.o; have := HM0.o; omega) (by have := HVM.o; omega) (HWPH.o 0 (.inl rfl))
   rw [hzt, ← hr0] at h1
   exact h1))
  have HR0 := hdd hr0
  have HLE0 : Hi (r0.1 ≤ m9 - 1) := hdd (by rw [hr0]; exact z3y ..)
  obtain ⟨v0, b0⟩ := r0
  clear hr0 hzt hz hn0
  go_wp2_with fail
  refine KE.o.mono ?_
  rintro en9 w9 ⟨he9, hfr9, vis9, hS9, hv9⟩
  subst he9
  have HZ9 := hdd (HZ8.o.trans hfr9)
  have HS9 := hdd hS9
  have HV9 := hdd hv9
  have hC9 := hfr9.row _ _ _ _ HCB.o (by decide) HC8.o
  have HB09 : Hi (Below w0.heap.size w0 w9) := hdd (HB0.o.trans (HZ9.o.low.mono H0T.o))
  have RC9 := hdd (q1q hC9)
  have u0 := RC9.o 0 _ rfl _ qb
  have u2 := RC9.o 2 _ rfl _ qb
  clear hfr9 hS9 hv9 hC9 y0 y1 KE
  cases b0 with
  | false =>
   go_wp2_with fail
   go_ret
   cases hn1 : g3q cn i cone with
   | false =>
    rw [m1q HM0.o HCQ.o HVN.o (by rw [← HNM.o.2.2.1, ← HCN.o.1, hn1]; simp)]
    exact ⟨rfl, HZ9.o, _, HS9.o, fun h => by cases h⟩
   | true =>
    rw [v1k (v0 := v0) HM0.o HCQ.o HVN.o (by rw [HASK.o, ← HNM.o.2.1, ← HNM.o.2.2.1, ← HCN.o.1, HN0.o, hn1]; rfl) (by rw [← HNM.o.1, ← HNM.o.2.1]; exact HR0.o.symm)]
    exact ⟨rfl, HZ9.o, _, HS9.o, fun h => by cases h⟩
  | true =>
  have HV1 : Hi (vis9 = vis + 1 + (v0 : Int)) := hdd (HV9.o rfl)
  cases hn1 : g3q cn i cone with
  | false =>
   have KE := hdd (z4x (P := P) (l := l) (lim := lim) (Cs := Cs) (lv := lv) (v := cvar) (b := 1) HCN.o.2 HS9.o HI.o.1 hn1)
   have HN1 := hdd hn1
   clear hn1
   go_wp2_with fail
   refine KE.o.mono ?_
   rintro en10 w10 ⟨rfl, hb10⟩
   go_wp2_with fail
   go_ret
   rw [m1q HM0.o HCQ.o HVN.o (by rw [← HNM.o.2.2.1, ← HCN.o.1, HN1.o]; simp)]
   exact ⟨rfl, HZ9.o.trans (Fr9.of_below hb10 (Nat.le_trans HTL.o HZ9.o.low.size)), _, HS9.o.below hb10, fun h => by cases h⟩
  | true =>
  have HN1 := hdd hn1
  have hz : (i : Int) < cone ∧ cone < cn := by unfold g3q at hn1; rwa [decide_eq_true_eq] at hn1
  have hzt : ((cone.toNat : Nat) : Int) = cone := Int.toNat_of_nonneg (by omega)
  obtain ⟨r1, hr1⟩ := qx (u6q P l lim Cs f cone.toNat (m9 - 1 - v0) (vs ++ [cvar]) (bs ++ [1]))
  have KE := hdd (v5k (r := r1) (P := P) (l := l) (lim := lim) (Cs := Cs) (v := cvar) (b := 1) HB09.o H0T.o HS9.o HWAY.o.len HL6.o hn1 (fun w' hb hS' => by
   have h1 := IH.o cone.toNat (m9 - 1 - v0) (vs ++ [cvar]) (bs ++ [1]) vis9 w' hb hS' (by omega) (by have := HI.o; omega) (by have h1 := HVM.o; have h2 := HM0.o; have h3 := HV1.o; have h4 : v0 ≤ m9 - 1 := HLE0.o; omega) (by have h1 := HVM.o; have h3 := HV1.o; omega) (HWPH.o 1 (.inr rfl))
   rw [hzt, ← hr1] at h1
   exact h1))
  have HR1 := hdd hr1
  obtain ⟨v1, b1⟩ := r1
  clear hr1 hzt hz hn1
  go_wp2_with fail
  refine KE.o.mono ?_
  rintro en10 w10 ⟨he10, hfr10, vis10, hS10, hv10⟩
  subst he10
  have HZ10 := hdd (HZ9.o.trans hfr10)
  have HS10 := hdd hS10
  have HV10 := hdd hv10
  clear hfr10 hS10 hv10 u0 u2 KE
  go_wp2_with fail
  go_ret
  rw [j5z (v0 := v0) (v1 := v1) (b1 := b1) HM0.o HCQ.o HVN.o (by rw [HASK.o, ← HNM.o.2.1, ← HNM.o.2.2.1, ← HCN.o.1, HN0.o, HN1.o]; rfl) (by rw [← HNM.o.1, ← HNM.o.2.1]; exact HR0.o.symm) (by rw [← HNM.o.1, ← HNM.o.2.2.1]; exact HR1.o.symm)]
  exact ⟨rfl, HZ10.o, _, HS10.o, fun h => by have h1 := HV10.o h; have h2 := HV1.o; show vis10 = vis + ((1 + v0 + v1 : Nat) : Int); have h3 : vis10 = vis9 + (v1 : Int) := h1; omega⟩
theorem x3v {w2 : World} {oa2 : Option Addr} {k oc2 : Nat} (hP : y9q 13 w (.agg #[.int .i64 (n : Nat), .slice fa fn fc, .slice ga gn gc, .slice ra rn rc]) P) (hb : Below w.heap.size w w2) (hrb : j7q P = true) (hk : k = (b6q P l).rows.length) (hL : LRo (rkI 13) w2 0 (.slice oa2 k oc2) (b6q P l).rows) :
  y9q 13 w2 (.agg #[.int .i64 (n : Nat), .slice fa fn fc, .slice ga gn gc, .slice oa2 k oc2]) (b6q P l) := by
 obtain ⟨fa', fc', ga', gc', ra', rc', hv, h1, h2, hf, hg, -⟩ := hP
 simp only [Value.agg.injEq, Array.mk.injEq, List.cons.injEq, Value.int.injEq, Value.slice.injEq, and_true, true_and] at hv
 obtain ⟨e1, ⟨rfl, e2, rfl⟩, ⟨rfl, e3, rfl⟩, -⟩ := hv
 have e1' : (n : Int) = P.vars := e1
 refine ⟨fa, fc, ga, gc, oa2, oc2, ?_, h1, h2, hf.below hb, hg.below hb, fun i r hr => ?_⟩
 ·
  subst hk
  show _ = Value.agg #[.int .i64 P.vars, .slice fa P.free.length fc, .slice ga P.goal.length gc, .slice oa2 (b6q P l).rows.length oc2]
  rw [← e1', ← e2, ← e3]
 ·
  obtain ⟨r', B, off, ar, nr, cr, b, a1, n1, c1, a2, n2, c2, hr', ha, hc, hl, hff, -⟩ := hL.at (i := i) (by rw [hk]; exact (List.getElem?_eq_some_iff.1 hr).1)
  rw [hr] at hr'
  cases hr'
  obtain ⟨k0, k1, k2, k3, k4⟩ := hc w2 qb
  have hl' : z1q 13 w2 (.slice ar nr cr) r.1 := hl
  obtain ⟨ar', cr', hq, -⟩ := id hl'
  simp only [Value.slice.injEq] at hq
  obtain ⟨rfl, rfl, rfl⟩ := hq
  have hsn := q2j (q8x (l := l) hrb) hr
  exact ⟨B, off, ha, ar, _, b, a1, n1, c1, a2, n2, c2, k0, k1, k2, k3, k4, hl', hff, by omega, by omega⟩
structure j5k (w : World) (P : Pm) (l : List Int) (Cs : List k9q) (tx tz : List Rat) (n : Nat) (fa : Option Addr) (fn fc : Nat) (ga : Option Addr) (gn gc : Nat) (ra : Option Addr) (rn rc : Nat) (va : Option Addr) (m vc : Nat) (xa : Option Addr) (xn xc : Nat) (za : Option Addr) (zn zc : Nat) (ca : Option Addr) (cn _cc : Nat) : Prop where
 prog : y9q 13 w (.agg #[.int .i64 (n : Nat), .slice fa fn fc, .slice ga gn gc, .slice ra rn rc]) P
 vars : (n : Int) = P.vars
 small : c9q 13 P
 task : q5z P l
 ints : v8q w va l
 len : m = l.length
 cap : m ≤ vc
 xs : z1q 13 w (.slice xa xn xc) tx
 xl : tx.length ≤ 41
 zs : z1q 13 w (.slice za zn zc) tz
 zl : tz.length ≤ 41
 cases : q1y w ca Cs
 cl : cn = Cs.length
 c8 : cn ≤ 800
theorem j5k.below (h : j5k w P l Cs tx tz n fa fn fc ga gn gc ra rn rc va m vc xa xn xc za zn zc ca cn cc) (hb : Below w.heap.size w w') : j5k w' P l Cs tx tz n fa fn fc ga gn gc ra rn rc va m vc xa xn xc za zn zc ca cn cc :=
 ⟨h.prog.below hb, h.vars, h.small, h.task, h.ints.below hb, h.len, h.cap, h.xs.below hb, h.xl, h.zs.below hb, h.zl, h.cases.below hb, h.cl, h.c8⟩
theorem z5h (h : j5k w P l Cs tx tz n fa fn fc ga gn gc ra rn rc va m vc xa xn xc za zn zc ca cn cc) :
  Calls Tryz.prog 40 #[.agg #[.int .i64 (n : Nat), .slice fa fn fc, .slice ga gn gc, .slice ra rn rc], .slice va m vc, .slice ca cn cc] w fun e w' => ∃ w2 T oa oc, e = .returned (.pointer (some ⟨T, 0, none⟩)) ∧ Below w.heap.size w w2 ∧ Below w2.heap.size w2 w' ∧ w2.heap.size ≤ T ∧ h6q w' T (T + 1) 0 [] [] n fa fn fc ga gn gc oa (rn + m) oc va m vc ca cn cc ∧
   ∀ lv lim, z7v w lv lim → j2v w2 P l lim Cs lv n fa fn fc ga gn gc oa (rn + m) oc va m vc ca cn cc := by
 have H := hdd h
 have hg := j2q h.task.right
 have hv8 := h.task.vars
 have hvn := h.vars
 have HN1 : Hi (0 < n ∧ n ≤ 8 ∧ P.rows.length = rn) := hdd ⟨by omega, by omega, by
  obtain ⟨_, _, _, _, _, _, hv, -⟩ := h.prog
  simp only [Value.agg.injEq, Array.mk.injEq, List.cons.injEq, Value.int.injEq, Value.slice.injEq, and_true, true_and] at hv
  exact hv.2.2.2.2.1.symm⟩
 have HR0 : Hi (d6q 13 w ra P.rows) := hdd (by
  obtain ⟨_, _, _, _, ra', _, hv, -, -, -, -, hR⟩ := h.prog
  simp only [Value.agg.injEq, Array.mk.injEq, List.cons.injEq, Value.int.injEq, Value.slice.injEq, and_true, true_and] at hv
  rw [hv.2.2.2.1]
  exact hR)
 have HNE : Hi (∀ r ∈ P.rows, r.1 ≠ []) := hdd (fun r hr e => by
  obtain ⟨i, hi⟩ := List.getElem?_of_mem hr
  have h1 := r2q h.task.right hi
  rw [e] at h1
  simp at h1
  omega)
 clear hg hv8 hvn
 obtain ⟨w1, hw1, HB1, HX1⟩ := al1 w #[.int .i64 (n : Nat), .slice fa fn fc, .slice ga gn gc, .slice ra rn rc] 26
 have HW1 := hdd hw1.symm
 clear hw1
 have RX := hdd (q1q HX1.o)
 have KB := hdd (g0x (N := 13) (w := w1) (n := n) (m := m) (fn := fn) (fc := fc) (gn := gn) (gc := gc) (rn := rn) (rc := rc) (vc := vc) (fa := fa) (ga := ga) (ra := ra) (va := va) (rs := P.rows) (l := l) (HR0.o.below HB1.o) HN1.o.2.2.symm HNE.o (by omega) (by omega) HN1.o.1 (h.ints.below HB1.o) h.len (fun i v hv => by have := l6q h.task.ok hv; have := h.vars; omega) (by have := HN1.o; omega) (by have := HN1.o; have := h.task.rows; omega) (by have := h.len; have := h.task.len; omega))
 obtain ⟨x0, x1, x2, x3⟩ := qz RX.o qb
 clear h
 go_enter Tryz.func40, Tryz.ntmps40
 go_wp2_with fail
 rw [HW1.o]
 refine KB.o.mono ?_
 rintro en2 w2 ⟨⟨oa, oc, rfl, hL2⟩, hb2⟩
 have HL2 := hdd hL2
 have HZ2 := hdd (q0q HB1.o hb2)
 clear x0 x1 x2 x3 hL2 hb2
 go_wp2_with fail
 go_ret
 have hnv : P.vars.toNat = n := by have := H.o.vars; omega
 have hrows : (b6q P l).rows = P.rows ++ m5q n l m := by rw [← hnv, H.o.len]; rfl
 have hlen : rn + m = (b6q P l).rows.length := by rw [hrows, List.length_append, n5q, HN1.o.2.2]
 have hL9 : LRo (rkI 13) w2 0 (.slice oa (rn + m) oc) (b6q P l).rows := by rw [hrows]; exact HL2.o
 refine ⟨w2, w2.heap.size, oa, oc, rfl, HZ2.o, (qb).alloc qm _, Nat.le_refl _, ⟨none, 0, none, 0, heap_alloc_new _ _, LIo.nil _ _, LIo.nil _ _, fun g hg => by simp [Value.ownBlock] at hg, Nat.lt_succ_self _, by simp only [World.alloc, Array.size_push]; omega⟩, fun lv lim hlim => ⟨⟨hL9, hlen, H.o.vars⟩, x3v H.o.prog HZ2.o H.o.task.right hlen hL9, ⟨H.o.ints.below HZ2.o, H.o.len⟩, ⟨H.o.cases.below HZ2.o, H.o.cl, H.o.c8⟩, hlim.below HZ2.o, H.o.task⟩⟩
theorem v1w (hS : h6q w T base 0 vs bs n fa fn fc ga gn gc oa rn oc va m vc ca cn cc) (hcn : cn = 0) :
  Calls Tryz.prog 74 #[.pointer (some ⟨T, 0, none⟩), .int .i64 0, lv] w fun e w' => e = .returned (.bool false) ∧ Below T w w' := by
 have HS := hdd hS
 have HCN : Hi (cn = 0) := hdd hcn
 have HTL : Hi (T ≤ w.heap.size) := hdd (by obtain ⟨_, _, _, _, hT, -⟩ := hS; exact Nat.le_of_lt (lt_of_block hT))
 obtain ⟨vva, vvc, bva, bvc, hT, -⟩ := hS
 have x6 := q1q hT 6 _ rfl _ qb
 have x69 := frozen_of_row _ _ 6 _ _ hT
 have hw9 : IntKind.i64.wrap (0 + 1) = 1 := IntWalk.i64_in _ (by omega)
 clear hT hcn
 go_enter Tryz.func74, Tryz.ntmps74
 go_wp2_with fail
 obtain ⟨hS2, hz2⟩ := h6q.more HS.o 1
 obtain ⟨w2, hw2⟩ := qx (w.setCell ⟨T, 6, none⟩ (.int .i64 1))
 rw [← hw2] at hS2 hz2 ⊢
 have HZ2 := hdd hz2
 clear hw2 x6 x69 hw9 hz2
 obtain ⟨vva2, vvc2, bva2, bvc2, hT2, -⟩ := hS2
 have RT := hdd (q1q hT2)
 have HTL2 : Hi (T < w2.heap.size) := hdd (lt_of_block hT2)
 clear hT2
 have x2 := RT.o 5 _ rfl _ (Below.refl w2.heap.size w2)
 have x6 := RT.o 6 _ rfl _ (Below.refl w2.heap.size w2)
 have t1 : decide ((1 : Int) > (cn : Int)) = true := by have := HCN.o; simp; omega
 have t2 : decide ((cn : Int) < 1) = true := by have := HCN.o; simp; omega
 go_wp2_with fail
 go_quiet (fail)
 go_wp2_with fail
 go_ret
 exact ⟨rfl, HZ2.o.low.trans ((q5q qb _).mono (Nat.le_of_lt HTL2.o))⟩
def n9q (P : Pm) (l : List Int) (lim : Option Rat) (Cs : List k9q) : Bool := (u6q P l lim Cs Cs.length 0 Cs.length [] []).2
theorem y2x (h : j2v w0 P l lim Cs lv n fa fn fc ga gn gc oa rn oc va m vc ca cn cc) (hb : Below w0.heap.size w0 w) (h0T : w0.heap.size ≤ T) (hS : h6q w T (T + 1) 0 [] [] n fa fn fc ga gn gc oa rn oc va m vc ca cn cc) :
  Calls Tryz.prog 41 #[.pointer (some ⟨T, 0, none⟩), lv] w fun e w' => e = .returned (.bool (n9q P l lim Cs)) ∧ Below T w w' := by
 have HCL := h.2.2.2.1.2
 have KV : Hi (Calls Tryz.prog 74 #[.pointer (some ⟨T, 0, none⟩), .int .i64 0, lv] w fun e w' => e = .returned (.bool (n9q P l lim Cs)) ∧ Below T w w') := hdd (by
  by_cases h0 : cn = 0
  ·
   have e1 : Cs = [] := List.length_eq_zero_iff.1 (by omega)
   have e2 : n9q P l lim Cs = false := by rw [e1]; rfl
   rw [e2]
   exact v1w hS h0
  ·
   have h9 := g5v h h0T cn 0 cn [] [] 0 w hb hS (by omega) (by omega) (by omega) (by omega) (Way.nil P l)
   refine h9.mono fun e w' h => ?_
   obtain ⟨he, hf, -⟩ := h
   refine ⟨?_, hf.low⟩
   rw [he, HCL.1]
   rfl)
 clear h hb h0T hS HCL
 obtain ⟨b9, hb9⟩ := qx (n9q P l lim Cs)
 rw [← hb9] at KV ⊢
 clear hb9
 go_enter Tryz.func41, Tryz.ntmps41
 go_wp2_with fail
 refine KV.o.mono ?_
 rintro en2 w2 ⟨rfl, hb2⟩
 have HB2 := hdd hb2
 clear hb2
 go_wp2_with fail
 go_ret
 exact ⟨rfl, HB2.o⟩
end Go.Proofs.YtkkbmlkpgknhgaaGreat
namespace Go.Proofs.YtkkbmlkpgknhgaaGreat
open Go.RowKit
variable {B T base cc cn fc fn gc gn i m n oc rc rn vc xc xn zc zn : Nat} {Cs : List k9q} {P : Pm} {b v vis z : Int} {bs l vs zs : List Int} {ca fa ga oa ra va xa za : Option Addr} {lim : Option Rat} {lv x0 x1 x2 x3 x4 x5 x6 x7 x8 : Value} {tx tz : List Rat} {w w' w0 : World}
theorem LIo.empty {g : Nat} (h : w.heap[g]? = some (.cells #[] 3 (0, 0))) (hb : base ≤ g) : LIo w base (.slice (some ⟨g, 0, none⟩) 0 0) [] := by
 refine ⟨⟨rfl, .inr ⟨g, 0, #[], rfl, hb, h, Nat.le_refl _, Nat.zero_le _, rfl, rfl⟩⟩, fun g' cs e fr hv hh => ?_⟩
 have h1 : some g = some g' := hv
 obtain rfl := Option.some.inj h1
 rw [h] at hh
 simp only [Option.some.injEq, Obj.cells.injEq] at hh
 obtain ⟨rfl, -, -⟩ := hh
 intro u hu
 simp at hu
theorem h4q {o : Oper} {a : Act} {C : Act → World → Prop} {Q : Exit → Act → World → Prop} (s x : Operand)
  (ho : o.op = .call { callee := .builtin .append, args := #[s, x], argTypes := #[27, 27] }) (base : Nat) (v : Value) (zs : List Int) (hs : a.eval s = v) (hown : LIo w base v zs)
  (va : Option Addr) (n c : Nat) (l : List Int) (hx : a.eval x = .slice va n c) (hI : v8q w va l) (hn : n = l.length) (hlen : zs.length + n ≤ 1000000) (hbase : base ≤ w.heap.size)
  (h : ∀ v' w', LIo w' base v' (zs ++ l) → w.grownBy w' v.ownBlock → (∀ W, Below base W w → Below base W w') → (v'.ownBlock = v.ownBlock ∨ v'.ownBlock = some w.heap.size) → C (a.put o.dst v') w') :
  Oper.wp Tryz.prog o a w C Q := by
 obtain ⟨i0, hi0, hz0, hz1, hz2⟩ := info_parts y0k
 have hlt := hown.lt
 by_cases hn0 : n = 0
 ·
  have hl0 : l = [] := List.length_eq_zero_iff.1 (by omega)
  subst hl0
  subst hn0
  obtain ⟨va', vc', hv⟩ := hown.form
  have hcap : zs.length ≤ vc' := j0w (hv ▸ hown)
  have hr : (Builtin.append_ #[27, 27] o.type #[v, .slice va 0 c]).run Tryz.prog w = .ok v w := by
   rw [hv]
   cases va <;> cases va' <;> simp [Builtin.append_, run_underlying (P := Tryz.prog) Tryz.underlying27, sizeOf, typeInfo, hi0, Builtin.lenOf, hcap, Builtin.firstCells, storeCells, loadCells, loadCellsFrom]
  unfold Oper.wp execOp
  simp only [ho, resolve, invoke, builtin, Sem.run_bind, Sem.run_pure, Result.andThen_ok, List.map_toArray, List.map_cons, List.map_nil, hs, hx, hr]
  refine h v w (by rw [List.append_nil]; exact hown) ⟨rfl, rfl, rfl, Nat.le_refl _, fun _ _ _ => rfl⟩ (fun W hW => hW) (.inl rfl)
 ·
  obtain ⟨z0, B, off, -, ha, -, -⟩ := hI.at (i := 0) (by omega)
  subst ha
  obtain ⟨hxs, hcl⟩ := hown
  obtain ⟨v', w', hr, h2, h3, h4, h5, -, -⟩ := f1q (P := Tryz.prog) (w := w) base 27 o.type 3 i0 (.int .i64 0) 1 8 Tryz.underlying27 hi0 hz0 hz1 hz2 rfl (by decide) v zs.length (zs.map (Value.int .i64)) hxs ⟨B, off, none⟩ n c
   (l.map (Value.int .i64)) (by rw [List.length_map, hn, Nat.mul_one]) (by
    intro j u hu
    rw [List.getElem?_map] at hu
    cases hb : l[j]? with
    | none => rw [hb] at hu; cases hu
    | some b =>
     rw [hb] at hu
     cases hu
     obtain ⟨B', off', ha, hc, -⟩ := hI j b hb
     cases ha
     rw [Addr.add_lit]
     exact hc) (by intro u hu; simp at hu; obtain ⟨b, -, rfl⟩ := hu; rfl) (by unfold maxLen; omega) (by omega) hbase (by omega)
   (by intro u hu k; simp [Value.cells] at hu; rcases hu with rfl; intro e; cases e) (by intro u hu k; simp at hu; obtain ⟨b, -, rfl⟩ := hu; intro e; cases e) hcl
  unfold Oper.wp execOp
  simp only [ho, resolve, invoke, builtin, Sem.run_bind, Sem.run_pure, Result.andThen_ok, List.map_toArray, List.map_cons, List.map_nil, hs, hx, hr]
  refine h v' w' ⟨by rw [List.length_append, List.map_append, ← hn]; exact h2, h5⟩ h3 ?_ h4
  intro W hW
  exact hW.grown h3 hbase (fun k hk => (hlt k hk).1)
end Go.Proofs.YtkkbmlkpgknhgaaGreat
