import Derived.Test.YtkkbmlkpgknhgaaGreatZ18
import Derived.Deep.RegionHeld3
import Derived.Deep.DrawnRows
set_option maxRecDepth 100000
set_option maxHeartbeats 16000000
namespace Go.Proofs.YtkkbmlkpgknhgaaGreat
open Go.RowKit
attribute [local go_sem ↓] Go.wp_at_zero Go.wp_at_succ
variable {B M N base m n vc : Nat} {b : Bool} {bs l : List Int} {qs : List Rat} {rs : List (List Rat × Int × Rat)} {v : Value} {va : Option Addr} {w w' : World} {z : Int}
theorem y9z {x y z u t : Value} {ty : TypeId} (h : w.heap[B]? = some (.cells #[x, y, z, u, t] ty (0, 0))) :
  (w.setCell ⟨B, 0, none⟩ v).heap[B]? = some (.cells #[v, y, z, u, t] ty (0, 0)) := heap_setCell_same _ _ 0 _ _ _ h
theorem y2z (w : World) (B k : Nat) (v : Value) : z9q B w (w.setCell ⟨B, k, none⟩ v) := (z9q.refl B w).setCell k v
theorem q4v {a1 a2 a3 : Option Addr} {n1 c1 n2 c2 n3 c3 : Nat} : ∀ (j k : Nat), (#[Value.slice a1 n1 c1, Value.int .i64 z, Value.bool b, Value.slice a2 n2 c2, Value.slice a3 n3 c3] : Array Value)[j]? ≠ some (U k) := by
 intro j k h
 rcases j with _ | _ | _ | _ | _ | j <;> simp [U] at h
theorem LFs.other {cs : Array Value} {t : TypeId} {fr : Nat × Nat} (h : LFs N w base v qs) (hB : w.heap[B]? = some (.cells cs t fr)) (hcs : ∀ (j k : Nat), cs[j]? ≠ some (U k)) (ho : z9q B w w') (hlow : B < base) : LFs N w' base v qs :=
 h.grown (c3q ho) (fun g hg e => by have := (h.lt g hg).1; cases e; omega) (fun _ _ _ _ _ _ _ _ hf => s7q hf hB hcs ho)
theorem LFs.clean9 (h : LFs N w base v qs) : Clean w v := h.elim fun _ h => h.2.1
theorem u3y {v j : Nat} (hj : j < n) : (x5q n v).take j ++ [if j = v then (1 : Rat) else 0] = (x5q n v).take (j + 1) ∧ ((x5q n v).take j ++ [if j = v then (1 : Rat) else 0]).length = j + 1 := by
 have hl : j < (x5q n v).length := by rw [f9q]; exact hj
 refine ⟨?_, by rw [List.length_append, List.length_take, f9q]; simp; omega⟩
 rw [List.take_succ_eq_append_getElem hl]
 congr 2
 simp [x5q]
theorem o7q : j5q (1 : Rat) ≤ 2 := by decide +kernel
theorem j0y : j5q (0 : Rat) ≤ 2 := by decide +kernel
theorem x2v {v : Nat} {s b : Int} {q : Rat} (hn : n ≤ 1000) (hq : d2q b 1 = q) (h1 : -9223372036854775808 ≤ b) (h2 : b ≤ 9223372036854775807) (hM : 2 ≤ M) (hM9 : M ≤ 4096) (hl : j5q q ≤ M) :
  Calls Tryz.prog 34 #[.int .i64 (n : Nat), .int .i64 (v : Nat), .int .i64 s, .int .i64 b] w fun e w' => (∃ base ar rc bb a1 n1 c1 a2 n2 c2, e = .returned (.agg #[.slice ar n rc, .int .i64 s, .bool bb, .slice a1 n1 c1, .slice a2 n2 c2]) ∧ LFs M w' base (.slice ar n rc) (x5q n v) ∧ v6q M w' (.agg #[.bool bb, .slice a1 n1 c1, .slice a2 n2 c2]) q ∧ w.heap.size ≤ base) ∧ Below w.heap.size w w' := by
 obtain ⟨w1, hw1, HB1, HR1⟩ := al1 w #[.slice none 0 0, .int .i64 0, .bool false, .slice none 0 0, .slice none 0 0] 45
 have HW1 := hdd hw1.symm
 have KI := hdd (fun w' => j5y (w := w') hq h1 h2)
 have HLB := hdd hl
 have HM9 := hdd hM9
 have HW0L : Hi (j5q (0 : Rat) ≤ M) := hdd (by have := j0y; omega)
 have HW1L : Hi (j5q (1 : Rat) ≤ M) := hdd (by have := o7q; omega)
 have KW0 := hdd (fun w' => j5y (w := w') y2w (by decide) (by decide))
 have KW1 := hdd (fun w' => j5y (w := w') a9q (by decide) (by decide))
 clear hw1 hq hl hM hM9
 go_enter Tryz.func34, Tryz.ntmps34
 go_wp2_with fail
 rw [HW1.o]
 refine (KI.o _).mono ?_
 rintro en3 w3 ⟨⟨v3, rfl, f3⟩, hb3⟩
 have f3 := a8q f3 HLB.o HM9.o
 obtain ⟨a3, n3, c3, i3, j3, k3, bq, hq3⟩ := j3z f3
 subst hq3
 have HF3 := hdd f3
 have HZ3 := hdd hb3
 clear f3 hb3
 go_wp2_with ((with_reducible refine j9q ?_); refine q6q rfl _ _ _ rfl w3.heap.size rfl _ rfl _ _ (heap_alloc_new _ _) w0q rfl f0q ?_; intro w4 h4 hon4; refine y0q ?_)
 have hb4 : Below w3.heap.size w3 w4 := q4q ((qb).alloc qm _) hon4 qm
 have HX4 := hdd h4
 have HF4 := hdd (HF3.o.below hb4)
 have HB14 := hdd (q0q HZ3.o hb4)
 have HW14 : Hi (w1.heap.size ≤ w4.heap.size) := hdd HB14.o.size
 obtain ⟨BX, hBX⟩ := qx (w3.heap.size)
 have HXB : Hi (w1.heap.size ≤ BX) := hdd (by rw [hBX]; exact HZ3.o.size)
 rw [← hBX] at HX4 ⊢
 have HXL : Hi (BX < w4.heap.size) := hdd (lt_of_block HX4.o)
 clear h4 hon4 hb4 hBX
 refine z2q ?_
 go_wp2_with fail
 go_loopw [10] (fun jv wr => ∃ (j : Nat) (oa : Option Addr) (oc : Nat), j ≤ n ∧ jv = .int .i64 j ∧ Hi (wr.heap[BX]? = some (.cells #[.slice oa j oc, .int .i64 s, .bool bq, .slice a3 n3 c3, .slice i3 j3 k3] 45 (0, 0))) ∧ Hi (LFs M wr w4.heap.size (.slice oa j oc) ((x5q n v).take j)) ∧ Hi (v6q M wr (.agg #[.bool bq, .slice a3 n3 c3, .slice i3 j3 k3]) q) ∧ Hi (Below w1.heap.size w1 wr) ∧ Hi (w4.heap.size ≤ wr.heap.size)) (fun jv _ => n - (intOf jv).toNat)
 case atStart => exact ⟨0, none, 0, Nat.zero_le _, rfl, HX4, hdd (LFs.nil _ _ _), HF4, HB14, hdd qm⟩
 case round =>
  obtain ⟨j, oa, oc, hj, rfl, hG, hO, hF, hZ, hsz⟩ := hrel
  obtain ⟨wo, rfl⟩ : ∃ wo : World, wo = wr := ⟨_, rfl⟩
  by_cases hin : j < n
  ·
   have t0 : decide ((j : Int) < (n : Int)) = true := by simp; omega
   have RY := hdd (q1q hG.o)
   have HTK := hdd (u3y (v := v) hin)
   have hz : Below wo.heap.size wo wo.drew := q5q qb 1
   by_cases hjv : j = v
   ·
    have t1 : ((j : Int) == (v : Int)) = true := by simp; omega
    have t2 : decide ((j : Int) = (v : Int)) = true := by simp; omega
    rw [if_pos hjv] at HTK
    clear hjv
    go_wp2_with fail
    refine h2q 7 (fun w' => w'.cell? ⟨BX, 0, none⟩ = some (.slice oa j oc)) (by kernel_rfl) (by (try dsimp only); exact RY.o 0 _ rfl _ (by assumption)) (fun hHeld => ?_)
    refine tt 0 ?_
    refine tt 1 ?_
    refine tt 2 ?_
    refine y6q (rs := [3]) (by kernel_rfl) (by simp) (z0q.cons (o := _) rfl (fun K hK => ?_) z0q.nil)
    go_simp
    refine (KW1.o _).mono ?_
    rintro en7 w7 ⟨⟨v7, rfl, f7⟩, hb7⟩
    have f7 := a8q f7 HW1L.o HM9.o
    obtain ⟨a7, n7, c7, i7, j7, k7, bu, hq7⟩ := j3z f7
    subst hq7
    have hz := q0q hz hb7
    try go_wp2_with fail
    refine hK.out _ _ (fun _ => ?_) (fun hHeld => ?_)
    ·
     (try dsimp only); exact RY.o 0 _ rfl _ (by assumption)
    replace hHeld := hHeld (by decide)
    clear hK K
    try refine lyt ?_
    refine y6q (rs := [4]) (by kernel_rfl) (by simp) (z0q.cons (o := _) rfl (fun K hK => ?_) z0q.nil)
    go_simp
    obtain ⟨w8, hw8⟩ : ∃ w', w' = w7.alloc (Obj.cells #[.bool bu, .slice a7 n7 c7, .slice i7 j7 k7] 43) := ⟨_, rfl⟩
    have hb8 : Below w7.heap.size w7 w8 := by rw [hw8]; exact (qb).alloc qm _
    have hr8 : w8.heap[w7.heap.size]? = some (.cells #[.bool bu, .slice a7 n7 c7, .slice i7 j7 k7] 43 (0, 0)) := by rw [hw8]; exact heap_alloc_new w7 _
    rw [← hw8]
    clear hw8
    have hz := q0q hz hb8
    have f8 := f7.below hb8
    refine hK.out _ _ (fun _ => ?_) (fun hHeld => ?_)
    ·
     (try dsimp only); exact RY.o 0 _ rfl _ (by assumption)
    replace hHeld := hHeld (by decide)
    clear hK K
    try refine lyt ?_
    refine y6q (rs := [5]) (by kernel_rfl) (by simp) (z0q.cons (o := _) rfl (fun K hK => ?_) z0q.nil)
    rw [if_pos (by kernel_rfl)]
    have HO8 := hO.o.below hz
    have hlt8 := hO.o.lt
    refine c4q _ _ rfl M w4.heap.size (Value.slice oa j oc) ((x5q n v).take j) rfl HO8 w7.heap.size 1 bu a7 i7 n7 c7 j7 k7 _ rfl hr8 f8 (by rw [List.length_take]; have := f9q n v; omega) (Nat.le_trans hsz.o hz.size) ?_
    intro v9 w9 hown9 hg9 hbel9 hat9 hold9
    have hB9 : Below w4.heap.size wo w9 := hbel9 wo (hz.mono hsz.o)
    have HX9 := (hB9.block _ HXL.o).trans hG.o
    obtain ⟨na, nc, hv9⟩ := hown9.form
    rw [HTK.o.1] at hown9
    rw [HTK.o.2] at hv9
    subst hv9
    have HF9 := a7q (hF.o.below hz) HO8.clean9 hg9
    have HZ9 : Below w1.heap.size w1 w9 := hZ.o.trans (hB9.mono HW14.o)
    refine hK.out _ _ (fun _ => ?_) (fun hHeld => ?_)
    ·
     (try dsimp only); exact q1q HX9 0 _ rfl _ qb
    replace hHeld := hHeld (by decide)
    clear hK K
    try refine lyt ?_
    refine tt 6 ?_
    refine y6q (rs := [7]) (by kernel_rfl) (by simp) (z0q.cons (o := _) rfl (fun K hK => ?_) z0q.nil)
    have g3 := q1q HX9 0 _ rfl _ qb
    have g4 := frozen_of_row _ _ 0 _ _ HX9
    go_simp
    refine hK.out _ _ (fun h => absurd rfl h) (fun _ => ?_)
    clear hK K
    try refine lyt ?_
    refine d3q (by kernel_rfl) ?_ _
    have HON := y2z w9 BX 0 (Value.slice na (j + 1) nc)
    have HG10 := hdd (y9z HX9 (v := Value.slice na (j + 1) nc))
    have HO10 := hdd (hown9.other HX9 q4v HON HXL.o)
    have HF10 := hdd (s7q HF9 HX9 q4v HON)
    have HZ10 := hdd (q4q HZ9 HON HXB.o)
    have HS10 : Hi (w4.heap.size ≤ (w9.setCell ⟨BX, 0, none⟩ (Value.slice na (j + 1) nc)).heap.size) := hdd (by rw [HON.size]; exact Nat.le_trans hsz.o hB9.size)
    clear HON HX9 HF9 HZ9 hB9 hown9
    go_wp2_with fail
    go_roundw
    case rel => exact ⟨j + 1, _, _, by omega, by go_num, HG10, HO10, HF10, HZ10, HS10⟩
    case measure => simp [intOf]; omega
   ·
    have t1 : ((j : Int) == (v : Int)) = false := by simp; omega
    have t2 : decide ((j : Int) = (v : Int)) = false := by simp; omega
    rw [if_neg hjv] at HTK
    clear hjv
    go_wp2_with fail
    refine h2q 7 (fun w' => w'.cell? ⟨BX, 0, none⟩ = some (.slice oa j oc)) (by kernel_rfl) (by (try dsimp only); exact RY.o 0 _ rfl _ (by assumption)) (fun hHeld => ?_)
    refine tt 0 ?_
    refine tt 1 ?_
    refine tt 2 ?_
    refine y6q (rs := [3]) (by kernel_rfl) (by simp) (z0q.cons (o := _) rfl (fun K hK => ?_) z0q.nil)
    go_simp
    refine (KW0.o _).mono ?_
    rintro en7 w7 ⟨⟨v7, rfl, f7⟩, hb7⟩
    have f7 := a8q f7 HW0L.o HM9.o
    obtain ⟨a7, n7, c7, i7, j7, k7, bu, hq7⟩ := j3z f7
    subst hq7
    have hz := q0q hz hb7
    try go_wp2_with fail
    refine hK.out _ _ (fun _ => ?_) (fun hHeld => ?_)
    ·
     (try dsimp only); exact RY.o 0 _ rfl _ (by assumption)
    replace hHeld := hHeld (by decide)
    clear hK K
    try refine lyt ?_
    refine y6q (rs := [4]) (by kernel_rfl) (by simp) (z0q.cons (o := _) rfl (fun K hK => ?_) z0q.nil)
    go_simp
    obtain ⟨w8, hw8⟩ : ∃ w', w' = w7.alloc (Obj.cells #[.bool bu, .slice a7 n7 c7, .slice i7 j7 k7] 43) := ⟨_, rfl⟩
    have hb8 : Below w7.heap.size w7 w8 := by rw [hw8]; exact (qb).alloc qm _
    have hr8 : w8.heap[w7.heap.size]? = some (.cells #[.bool bu, .slice a7 n7 c7, .slice i7 j7 k7] 43 (0, 0)) := by rw [hw8]; exact heap_alloc_new w7 _
    rw [← hw8]
    clear hw8
    have hz := q0q hz hb8
    have f8 := f7.below hb8
    refine hK.out _ _ (fun _ => ?_) (fun hHeld => ?_)
    ·
     (try dsimp only); exact RY.o 0 _ rfl _ (by assumption)
    replace hHeld := hHeld (by decide)
    clear hK K
    try refine lyt ?_
    refine y6q (rs := [5]) (by kernel_rfl) (by simp) (z0q.cons (o := _) rfl (fun K hK => ?_) z0q.nil)
    rw [if_pos (by kernel_rfl)]
    have HO8 := hO.o.below hz
    have hlt8 := hO.o.lt
    refine c4q _ _ rfl M w4.heap.size (Value.slice oa j oc) ((x5q n v).take j) rfl HO8 w7.heap.size 1 bu a7 i7 n7 c7 j7 k7 _ rfl hr8 f8 (by rw [List.length_take]; have := f9q n v; omega) (Nat.le_trans hsz.o hz.size) ?_
    intro v9 w9 hown9 hg9 hbel9 hat9 hold9
    have hB9 : Below w4.heap.size wo w9 := hbel9 wo (hz.mono hsz.o)
    have HX9 := (hB9.block _ HXL.o).trans hG.o
    obtain ⟨na, nc, hv9⟩ := hown9.form
    rw [HTK.o.1] at hown9
    rw [HTK.o.2] at hv9
    subst hv9
    have HF9 := a7q (hF.o.below hz) HO8.clean9 hg9
    have HZ9 : Below w1.heap.size w1 w9 := hZ.o.trans (hB9.mono HW14.o)
    refine hK.out _ _ (fun _ => ?_) (fun hHeld => ?_)
    ·
     (try dsimp only); exact q1q HX9 0 _ rfl _ qb
    replace hHeld := hHeld (by decide)
    clear hK K
    try refine lyt ?_
    refine tt 6 ?_
    refine y6q (rs := [7]) (by kernel_rfl) (by simp) (z0q.cons (o := _) rfl (fun K hK => ?_) z0q.nil)
    have g3 := q1q HX9 0 _ rfl _ qb
    have g4 := frozen_of_row _ _ 0 _ _ HX9
    go_simp
    refine hK.out _ _ (fun h => absurd rfl h) (fun _ => ?_)
    clear hK K
    try refine lyt ?_
    refine d3q (by kernel_rfl) ?_ _
    have HON := y2z w9 BX 0 (Value.slice na (j + 1) nc)
    have HG10 := hdd (y9z HX9 (v := Value.slice na (j + 1) nc))
    have HO10 := hdd (hown9.other HX9 q4v HON HXL.o)
    have HF10 := hdd (s7q HF9 HX9 q4v HON)
    have HZ10 := hdd (q4q HZ9 HON HXB.o)
    have HS10 : Hi (w4.heap.size ≤ (w9.setCell ⟨BX, 0, none⟩ (Value.slice na (j + 1) nc)).heap.size) := hdd (by rw [HON.size]; exact Nat.le_trans hsz.o hB9.size)
    clear HON HX9 HF9 HZ9 hB9 hown9
    go_wp2_with fail
    go_roundw
    case rel => exact ⟨j + 1, _, _, by omega, by go_num, HG10, HO10, HF10, HZ10, HS10⟩
    case measure => simp [intOf]; omega
  ·
   have t0 : decide ((j : Int) < (n : Int)) = false := by simp; omega
   obtain rfl : j = n := by omega
   have x0 := q1q hG.o 0 _ rfl _ qb
   have x1 := q1q hG.o 1 _ rfl _ qb
   have x2 := q1q hG.o 2 _ rfl _ qb
   have x3 := q1q hG.o 3 _ rfl _ qb
   have x4 := q1q hG.o 4 _ rfl _ qb
   have HR9 := (hZ.o.block _ (lt_of_block HR1.o)).trans HR1.o
   have hlow : w.heap.size < w4.heap.size := Nat.lt_of_lt_of_le (lt_of_block HR1.o) HW14.o
   go_wp2_with ((with_reducible refine j9q ?_); refine q6q rfl _ _ _ rfl w.heap.size rfl _ rfl _ _ HR9 w0q rfl f0q ?_; intro w10 h10 hon10; refine y0q ?_)
   refine z2q ?_
   have HL10 := hO.o.other HR9 q4v hon10 hlow
   rw [List.take_of_length_le (by rw [f9q]; exact Nat.le_refl _)] at HL10
   have HF10 := s7q hF.o HR9 q4v hon10
   clear x0 x1 x2 x3 x4
   go_wp2_with fail
   exact bodyPost_ret (results_cell_row rfl _ _ w.heap.size _ _ _ _ rfl h10 Tryz.underlying45 rfl w0q) rfl ⟨⟨_, _, _, _, _, _, _, _, _, _, rfl, HL10, HF10, Nat.le_of_lt hlow⟩, q4q (q0q HB1.o hZ.o) hon10 qm⟩
theorem g2z {n : Int} (h : okV n l = true) {i : Nat} {v : Int} (hv : l[i]? = some v) : (l.take i).contains v = false := by
 have hi := (List.getElem?_eq_some_iff.1 hv).1
 have h1 := List.all_eq_true.1 h i (by simpa using hi)
 rw [o9q hv] at h1
 simp only [Bool.and_eq_true, Bool.not_eq_true'] at h1
 exact h1.2
theorem u4y (h : bs.any j6j = false) {i : Nat} {z : Int} (hz : bs[i]? = some z) : z = 0 ∨ z = 1 := by
 have h1 := List.any_eq_false.1 h z (List.mem_of_getElem? hz)
 simp only [j6j, Bool.and_eq_true, decide_eq_true_eq] at h1
 omega
theorem y4z (h : z = 0 ∨ z = 1) : j5q (y4j z) ≤ 2 := by
 rcases h with rfl | rfl
 ·
  exact j0y
 ·
  exact o7q
theorem v2z {a b : Nat} (h : a < b) : decide ((a : Int) ≥ (b : Int)) = false := by simp; omega
theorem x6z {bc : Nat} {P : Pm} {ba : Option Addr} (h : y9q N w v P) (hrb : j7q P = true) (hs : c9q M P) (hN : N ≤ 1000) (hN1 : 2 ≤ M) (hM : M ≤ 1100) (hv1 : P.vars ≤ 160) (hr1 : P.rows.length ≤ 200) (hl : v8q w va l) (hbs : v8q w ba bs) (hm : m = l.length) (hlb : l.length = bs.length) (hm9 : m ≤ 160) (hvc : m ≤ vc) (hok : okV P.vars l = true) (hbit : bs.any j6j = false) :
  Calls Tryz.prog 11 #[v, .slice va m vc, .slice ba m bc] w fun e w' => (∃ r, e = .returned (.tuple #[r, .int .i64 0]) ∧ r3q (rkF M) w' w.heap.size r (j6x P l bs)) ∧ Below w.heap.size w w' := by
 have HRB := hdd hrb
 have HP := hdd h
 have KFX := hdd (fun w' (hb : Below w.heap.size w w') => y7w (h.below hb) hrb hs hN hM hv1 (by omega))
 have KR := hdd (fun w' (hb : Below w.heap.size w w') => f7q (h.below hb) ⟨hv1, by omega, by have := j2q hrb; omega, by have := j2q hrb; omega⟩)
 rw [g5q hrb] at KR
 have HS := hdd hs
 have HN : Hi (N ≤ 1000 ∧ M ≤ 1100) := hdd ⟨hN, hM⟩
 have HI := hdd hl
 have HIB := hdd hbs
 have HM : Hi (m = l.length ∧ l.length = bs.length) := hdd ⟨hm, hlb⟩
 have HOKV : Hi (∀ (i : Nat) (v : Int), l[i]? = some v → 0 ≤ v ∧ v < P.vars) := hdd (fun i v hv => l6q hok hv)
 have HOKB := hdd hok
 have HBIT := hdd hbit
 obtain ⟨fa, fc, ga, gc, ra, rc, rfl, -, -, hB, hG, hR⟩ := h
 have HBO := hdd hB
 have HR := hdd hR
 obtain ⟨z, hz⟩ := qx (P.vars)
 obtain ⟨fn, hfn⟩ := qx (P.free.length)
 obtain ⟨gn, hgn⟩ := qx (P.goal.length)
 obtain ⟨rn, hrn⟩ := qx (P.rows.length)
 rw [← hz] at HP KR ⊢
 rw [← hfn] at HP KR ⊢
 rw [← hgn] at HP hG KR ⊢
 rw [← hrn] at HP KR ⊢
 simp only [← hz, ← hfn, ← hgn, ← hrn] at KFX
 have HG := hdd hG
 have HEQ := hdd (And.intro hz (And.intro hfn (And.intro hgn hrn)))
 have HZF : Hi (z = (gn : Int) ∧ fn = gn ∧ 0 < gn ∧ gn ≤ 160 ∧ rn ≤ 200) := hdd (by have := j2q hrb; omega)
 obtain ⟨hzg, hfg, hg0, hg160, hr200⟩ := HZF.o
 clear hs hM hl hbs hm hlb hok hbit hN hB hR hG hz hfn hgn hrn hrb hv1 hr1
 subst hfg
 subst hzg
 obtain ⟨w1, hw1, HB1, HX1, HO1⟩ := al2 w #[.int .i64 (fn : Int), .slice fa fn fc, .slice ga fn gc, .slice ra rn rc] 26 #[.int .i64 0, .slice none 0 0, .slice none 0 0, .slice none 0 0] 26
 have HW1 := hdd hw1.symm
 clear hw1
 have RX := hdd (q1q HX1.o)
 have hb1 := Below.refl w1.heap.size w1
 obtain ⟨x0, x1, x2, x3⟩ := qz RX.o hb1
 have HOKN : Hi (okV ((fn : Nat) : Int) l = true) := hdd (by rw [HEQ.o.1]; exact HOKB.o)
 have HOKI : Hi (∀ (i : Nat) (v : Int), l[i]? = some v → 0 ≤ v ∧ v < (fn : Int)) := hdd (fun i v hv => by rw [HEQ.o.1]; exact HOKV.o i v hv)
 have tnn : ((m : Int) != (m : Int)) = false := by simp
 have t400 : decide ((400 : Int) < (rn : Int) + (m : Int)) = false := by simp; omega
 have HVC := hdd hvc
 have HN1 := hdd hN1
 clear hN1
 go_enter Tryz.func11, Tryz.ntmps11
 go_wp2_with fail
 rw [HW1.o]
 refine (KR.o _ HB1.o).mono ?_
 rintro en2 w2 ⟨rfl, hb2⟩
 have HZ2 := hdd hb2
 obtain ⟨x0, x1, x2, x3⟩ := qz RX.o hb2
 clear hb2
 go_wp2_with fail
 go_loopw [28] (fun iv wr => ∃ i : Nat, i ≤ m ∧ iv = .int .i64 i ∧ Hi (Below w1.heap.size w1 wr)) (fun iv _ => m - (intOf iv).toNat)
 case atStart => exact ⟨0, Nat.zero_le _, rfl, HZ2⟩
 case round =>
  obtain ⟨i, hi, rfl, hZ⟩ := hrel
  obtain ⟨wo, rfl⟩ : ∃ wo : World, wo = wr := ⟨_, rfl⟩
  by_cases hin : i < m
  ·
   have t0 : decide ((i : Int) < (m : Int)) = true := by simp; omega
   obtain ⟨z, Bv, offv, hz, ha, hzb, hcv⟩ := HI.o.at (i := i) (by have := HM.o; omega)
   obtain ⟨bz, Bb, offb, hbz, hab, hzb2, hcb⟩ := HIB.o.at (i := i) (by have := HM.o; omega)
   obtain ⟨v, rfl⟩ : ∃ v : Nat, z = (v : Int) := ⟨z.toNat, by have := (HOKI.o i z hz).1; omega⟩
   have hvn : v < fn := by have := (HOKI.o i _ hz).2; omega
   have t1 : decide ((v : Int) < 0) = false := by simp
   have t2 := v2z hvn
   have t3 : decide ((fn : Int) ≤ (v : Int)) = false := by simp; omega
   subst ha
   subst hab
   have e1 := hcv wo (q0q HB1.o hZ.o)
   have x0 := RX.o 0 _ rfl _ hZ.o
   have hiv : i ≤ vc := by have := HVC.o; omega
   have HCB := hdd hcb
   have HBIT9 := hdd (u4y HBIT.o hbz)
   have KWI := hdd (q8h (w := wo) (c := vc) (v := (v : Int)) (m := i) (HI.o.below (q0q HB1.o hZ.o)) (by have := HM.o; omega) (by omega))
   rw [g2z HOKB.o hz] at KWI
   clear hcv hcb hz hbz
   go_wp2_with fail
   refine KWI.o.mono ?_
   rintro en4 w4 ⟨rfl, hb4⟩
   have HZ4 := hdd (q0q hZ.o hb4)
   have e2 := HCB.o w4 (q0q HB1.o HZ4.o)
   clear hb4 e1 x0
   obtain ⟨bz', hbz'⟩ : ∃ b, b = bz := ⟨_, rfl⟩
   rw [← hbz'] at e2 HBIT9
   rcases HBIT9.o with h9 | h9
   ·
    rw [h9] at e2
    clear hbz' h9 HBIT9
    go_wp2_with fail
    go_roundw
    case rel => exact ⟨i + 1, by omega, by go_num, HZ4⟩
    case measure => simp [intOf]; omega
   ·
    rw [h9] at e2
    clear hbz' h9 HBIT9
    go_wp2_with fail
    go_roundw
    case rel => exact ⟨i + 1, by omega, by go_num, HZ4⟩
    case measure => simp [intOf]; omega
  ·
   have t0 : decide ((i : Int) < (m : Int)) = false := by simp; omega
   obtain rfl : i = m := by omega
   obtain ⟨x0, x1, x2, x3⟩ := qz RX.o hZ.o
   go_wp2_with fail
   refine (KFX.o _ (q0q HB1.o hZ.o)).mono ?_
   rintro en3 w3 ⟨⟨r3, rfl, hn3⟩, hb3⟩
   obtain ⟨fa', fc', ga', gc', oa, oc, mid, hq3, hBF, hGL, hRO, hm1, hm2, hm3, hm4⟩ := hn3
   rw [← HEQ.o.1, ← HEQ.o.2.1, ← HEQ.o.2.2.1, ← HEQ.o.2.2.2] at hq3
   subst hq3
   rw [← HEQ.o.2.2.1] at hGL hm3
   rw [← HEQ.o.2.2.2] at hRO
   have HRN : Hi (P.rows.length = rn) := hdd HEQ.o.2.2.2.symm
   have HZ3 := hdd (q0q hZ.o hb3)
   have HBF := hdd hBF
   have HGL := hdd hGL
   have HRO := hdd hRO
   have HM1 : Hi (w1.heap.size ≤ mid) := hdd (Nat.le_trans hZ.o.size hm1)
   have HM2 := hdd hm2
   have HM3 := hdd hm3
   have HM4 := hdd hm4
   clear hBF hGL hRO hm1 hm2 hm3 hm4 hb3 x0 x1 x2 x3 KFX KR
   go_wp2_with ((with_reducible refine j9q ?_); refine q6q rfl _ _ _ rfl w3.heap.size rfl _ rfl _ _ (heap_alloc_new _ _) g8q rfl b9q ?_; intro w4 h4 hon4; refine y0q ?_)
   have hb4 : Below w3.heap.size w3 w4 := q4q ((qb).alloc qm _) hon4 qm
   obtain ⟨XB, hXB⟩ := qx (w3.heap.size)
   have HXB : Hi (mid ≤ XB) := hdd (by rw [hXB]; exact HM4.o)
   have HXW : Hi (w1.heap.size ≤ XB) := hdd (by rw [hXB]; exact HZ3.o.size)
   have HK4 : Hi (∀ k, (Value.slice oa (rn + 0) oc).ownBlock = some k → k ≠ XB) := hdd (fun k hk e => by have := (HRO.o.lt k hk).2; omega)
   rw [← hXB] at h4 ⊢
   have HG4 : Hi (w4.heap[XB]? = some (.cells #[.int .i64 (fn : Int), .slice fa' fn fc', .slice ga' fn gc', .slice oa (rn + 0) oc] 26 (0, 0))) := hdd h4
   have HL4 : Hi (LRo (rkF M) w4 mid (.slice oa (rn + 0) oc) (P.rows ++ m4q fn l bs 0)) := hdd (by
    rw [show m4q fn l bs 0 = [] from rfl, List.append_nil]
    exact HRO.o.below hb4)
   have HF4 := hdd (HBF.o.below hb4)
   have HGL4 := hdd ((rkF M).belowL HGL.o hb4)
   have HZ4 := hdd (q0q HZ3.o hb4)
   have HXL : Hi (XB < w4.heap.size) := hdd (lt_of_block h4)
   clear h4 hon4 hb4 hXB
   refine z2q ?_
   go_wp2_with fail
   go_loopw [76] (fun iv wr => ∃ (j : Nat) (oa : Option Addr) (oc : Nat), j ≤ i ∧ iv = .int .i64 j ∧ Hi (wr.heap[XB]? = some (.cells #[.int .i64 (fn : Int), .slice fa' fn fc', .slice ga' fn gc', .slice oa (rn + j) oc] 26 (0, 0))) ∧ Hi (LRo (rkF M) wr mid (.slice oa (rn + j) oc) (P.rows ++ m4q fn l bs j)) ∧ Hi (f3q wr fa' P.free) ∧ Hi ((rkF M).L wr (.slice ga' fn gc') P.goal) ∧ Hi (Below w1.heap.size w1 wr) ∧ Hi (w4.heap.size ≤ wr.heap.size) ∧ Hi (∀ k, (Value.slice oa (rn + j) oc).ownBlock = some k → k ≠ XB)) (fun iv _ => i - (intOf iv).toNat)
   case atStart => exact ⟨0, _, _, Nat.zero_le _, rfl, HG4, HL4, HF4, HGL4, HZ4, hdd qm, HK4⟩
   case round =>
    obtain ⟨j, oa, oc, hj, rfl, hG, hO, hF, hGL2, hZ2, hsz, hob⟩ := hrel
    obtain ⟨wo, rfl⟩ : ∃ wo : World, wo = wr := ⟨_, rfl⟩
    by_cases hjn : j < i
    ·
     have t0 : decide ((j : Int) < (i : Int)) = true := by simp; omega
     obtain ⟨z, Bv, offv, hz, ha, hzb, hcv⟩ := HI.o.at (i := j) (by have := HM.o; omega)
     obtain ⟨bz, Bb, offb, hbz, hab, hzb2, hcb⟩ := HIB.o.at (i := j) (by have := HM.o; omega)
     obtain ⟨v, rfl⟩ : ∃ v : Nat, z = (v : Int) := ⟨z.toNat, by have := (HOKI.o j z hz).1; omega⟩
     have hvn : v < fn := by have := (HOKI.o j _ hz).2; omega
     subst ha
     subst hab
     have e1 := hcv wo (q0q HB1.o hZ2.o)
     have HCBW : Hi (∀ w', Below w.heap.size w w' → w'.cell? ⟨Bb, offb + j, none⟩ = some (.int .i64 bz)) := hdd hcb
     have HCB : Hi (∀ w', Below wo.heap.size wo w' → w'.cell? ⟨Bb, offb + j, none⟩ = some (.int .i64 bz)) := hdd (fun w' hb => hcb w' (q0q (q0q HB1.o hZ2.o) hb))
     obtain ⟨bq, hbq⟩ := qx (y4j bz)
     have HBR : Hi ((e9q fn l bs j).1 = x5q fn v ∧ (e9q fn l bs j).2.2 = bq) := hdd (by
      unfold e9q
      rw [hz, hbz, hbq]
      exact ⟨rfl, rfl⟩)
     have KA := hdd (fun w' => x2v (M := M) (v := v) (w := w') (s := 0) (show fn ≤ 1000 by omega) hbq.symm hzb2.1 hzb2.2 (by have := HN1.o; omega) (by have := HN.o; omega) (by rw [hbq]; have := y4z (u4y HBIT.o hbz); have := HN1.o; omega))
     have RY := hdd (q1q hG.o)
     have RXW := hdd (fun w' (hb : Below wo.heap.size wo w') => RX.o 0 _ rfl w' (q0q hZ2.o hb))
     have hz : Below wo.heap.size wo wo.drew := q5q qb 1
     clear hcv hcb hbz hbq
     go_wp2_with fail
     refine h2q 13 (fun w' => w'.cell? ⟨w.heap.size, 0, none⟩ = some (.int .i64 (fn : Nat)) ∧ w'.cell? ⟨XB, 3, none⟩ = some (.slice oa (rn + j) oc) ∧ w'.cell? ⟨Bb, offb + j, none⟩ = some (.int .i64 bz)) (by kernel_rfl) (by (try dsimp only); refine ⟨?_, ?_, ?_⟩ <;> (first | exact RY.o 3 _ rfl _ (by assumption) | exact RXW.o _ (by assumption) | exact HCB.o _ (by assumption))) (fun hHeld => ?_)
     refine tt 0 ?_
     refine tt 1 ?_
     refine tt 2 ?_
     refine tt 3 ?_
     refine tt 4 ?_
     refine tt 5 ?_
     refine tt 6 ?_
     refine tt 7 ?_
     refine tt 8 ?_
     refine y6q (rs := [9]) (by kernel_rfl) (by simp) (z0q.cons (o := _) rfl (fun K hK => ?_) z0q.nil)
     go_simp
     refine (KA.o _).mono ?_
     rintro en7 w7 ⟨⟨base7, ar7, rc7, bb7, a7, n7, c7, i7, j7, k7, rfl, hl7, hf7, hn7⟩, hb7⟩
     have hn7 : ∀ k, (Value.slice ar7 fn rc7).ownBlock = some k → wo.heap.size ≤ k := fun k hk => Nat.le_trans hz.size (Nat.le_trans hn7 (hl7.lt k hk).1)
     have hlk7 : ∀ k, (Value.slice ar7 fn rc7).ownBlock = some k → k < w7.heap.size := fun k hk => (hl7.lt k hk).2
     have hz := q0q hz hb7
     try go_wp2_with fail
     refine hK.out _ _ (fun _ => ?_) (fun hHeld => ?_)
     ·
      (try dsimp only); refine ⟨?_, ?_, ?_⟩ <;> (first | exact RY.o 3 _ rfl _ (by assumption) | exact RXW.o _ (by assumption) | exact HCB.o _ (by assumption))
     replace hHeld := hHeld (by decide)
     clear hK K
     try refine lyt ?_
     refine y6q (rs := [10]) (by kernel_rfl) (by simp) (z0q.cons (o := _) rfl (fun K hK => ?_) z0q.nil)
     go_simp
     obtain ⟨w8, hw8⟩ : ∃ w', w' = w7.alloc (Obj.cells #[.slice ar7 fn rc7, .int .i64 0, .bool bb7, .slice a7 n7 c7, .slice i7 j7 k7] 45) := ⟨_, rfl⟩
     have hb8 : Below w7.heap.size w7 w8 := by rw [hw8]; exact (qb).alloc qm _
     have hr8 : w8.heap[w7.heap.size]? = some (.cells #[.slice ar7 fn rc7, .int .i64 0, .bool bb7, .slice a7 n7 c7, .slice i7 j7 k7] 45 (0, 0)) := by rw [hw8]; exact heap_alloc_new w7 _
     rw [← hw8]
     clear hw8
     have hz := q0q hz hb8
     have hl8 := hl7.below hb8
     have hf8 := hf7.below hb8
     refine hK.out _ _ (fun _ => ?_) (fun hHeld => ?_)
     ·
      (try dsimp only); refine ⟨?_, ?_, ?_⟩ <;> (first | exact RY.o 3 _ rfl _ (by assumption) | exact RXW.o _ (by assumption) | exact HCB.o _ (by assumption))
     replace hHeld := hHeld (by decide)
     clear hK K
     try refine lyt ?_
     refine y6q (rs := [11]) (by kernel_rfl) (by simp) (z0q.cons (o := _) rfl (fun K hK => ?_) z0q.nil)
     rw [if_pos (by kernel_rfl)]
     have HO8 := hO.o.below hz
     have hlt8 := hO.o.lt
     have hmo : mid ≤ wo.heap.size := Nat.le_trans HXB.o (Nat.le_trans (Nat.le_of_lt HXL.o) hsz.o)
     refine l7q (K := (rkF M)) _ _ rfl mid (Value.slice oa (rn + j) oc) (P.rows ++ m4q fn l bs j) rfl HO8 w7.heap.size 1 ar7 fn rc7 bb7 a7 i7 n7 c7 j7 k7 (e9q fn l bs j) rfl hr8 (by rw [show (e9q fn l bs j).1 = x5q fn v from HBR.o.1]; exact ⟨_, hl8⟩) (by rw [show (e9q fn l bs j).2.2 = bq from HBR.o.2]; exact hf8) (fun k hk => ⟨fun e => by have h1 := hn7 k hk; have h2 := (hlt8 k e).2; omega, Nat.lt_of_lt_of_le (hlk7 k hk) hb8.size, by have h1 := hn7 k hk; omega⟩) (by rw [List.length_append, r6q]; have := HRN.o; omega) (Nat.le_trans hmo hz.size) ?_
     intro v9 w9 hown9 hg9 hbel9 hat9
     rw [List.append_assoc, z9v] at hown9
     have hB9 : Below mid wo w9 := hbel9 wo (hz.mono hmo)
     have HX9 := (hg9.block _ (Nat.lt_of_lt_of_le (lt_of_block hG.o) hz.size) (fun e => hob.o _ e.symm rfl)).trans ((hz.block _ (lt_of_block hG.o)).trans hG.o)
     have HZ9 : Below w1.heap.size w1 w9 := hZ2.o.trans (hB9.mono HM1.o)
     have HF9 := hF.o.belowN HM2.o hB9
     have HL9 := (rkF M).keepL ((rkF M).belowL hGL2.o hz) HO8.clean hg9 (fun g hg e => by have h1 := HM3.o g hg; have h2 := (hlt8 g e).1; omega)
     have HS9 := Nat.le_trans hsz.o (Nat.le_trans hz.size hg9.size)
     obtain ⟨na, nc, hv9⟩ := hown9.form
     rw [List.length_append, r6q, HRN.o, ← Nat.add_assoc] at hv9
     subst hv9
     have HOB9 : ∀ k, (Value.slice na (rn + j + 1) nc).ownBlock = some k → k ≠ XB := fun k hk => by
      rcases hat9 with e4 | e4
      ·
       rw [e4] at hk; exact hob.o k hk
      ·
       rw [e4] at hk
       have h1 := Option.some.inj hk
       have h2 := Nat.le_trans hsz.o hz.size
       have h3 := HXL.o
       omega
     refine hK.out _ _ (fun _ => ?_) (fun hHeld => ?_)
     ·
      (try dsimp only); refine ⟨?_, ?_, ?_⟩ <;> (first | exact q1q HX9 3 _ rfl _ qb | exact RX.o 0 _ rfl _ HZ9 | exact HCBW.o _ (q0q HB1.o HZ9))
     replace hHeld := hHeld (by decide)
     clear hK K
     try refine lyt ?_
     refine tt 12 ?_
     refine y6q (rs := [13]) (by kernel_rfl) (by simp) (z0q.cons (o := _) rfl (fun K hK => ?_) z0q.nil)
     have g3 := q1q HX9 3 _ rfl _ qb
     have g4 := frozen_of_row _ _ 3 _ _ HX9
     go_simp
     refine hK.out _ _ (fun h => absurd rfl h) (fun _ => ?_)
     clear hK K
     try refine lyt ?_
     refine d3q (by kernel_rfl) ?_ _
     have HON := w6q w9 XB (Value.slice na (rn + j + 1) nc)
     have HG10 := hdd (a4q HX9 (v := Value.slice na (rn + j + 1) nc))
     have HO10 := hdd (hown9.otherT (v4w _) HX9 (by decide) (by decide) u1q HON)
     have HF10 := hdd (HF9.other HX9 k3q HON)
     have HL10 := hdd ((rkF M).otherL HL9 HX9 u1q HON (fun g hg e => by have h1 := HM3.o g hg; have h2 := HXB.o; omega))
     have HZ10 := hdd (q4q HZ9 HON HXW.o)
     have HS10 : Hi (w4.heap.size ≤ (w9.setCell ⟨XB, 3, none⟩ (Value.slice na (rn + j + 1) nc)).heap.size) := hdd (by rw [HON.size]; exact HS9)
     have HOB10 := hdd HOB9
     clear HON HX9 HF9 HL9 HZ9 HS9 HOB9 hB9 hown9
     go_wp2_with fail
     go_roundw
     case rel => exact ⟨j + 1, _, _, by omega, by go_num, HG10, HO10, HF10, HL10, HZ10, HS10, HOB10⟩
     case measure => simp [intOf]; omega
    ·
     have t0 : decide ((j : Int) < (i : Int)) = false := by simp; omega
     obtain rfl : j = i := by omega
     have HR9 := (hZ2.o.block _ (lt_of_block HO1.o)).trans HO1.o
     have hlow : w.heap.size + 1 < mid := Nat.lt_of_lt_of_le (lt_of_block HO1.o) HM1.o
     have g0 := q1q hG.o 0 _ rfl _ qb
     have g1 := q1q hG.o 1 _ rfl _ qb
     have g2 := q1q hG.o 2 _ rfl _ qb
     have g3 := q1q hG.o 3 _ rfl _ qb
     go_wp2_with ((with_reducible refine j9q ?_); refine q6q rfl _ _ _ rfl (w.heap.size + 1) rfl _ rfl _ _ HR9 g8q rfl b9q ?_; intro w7 h7 hon7; refine y0q ?_)
     refine z2q ?_
     have HO7 := hO.o.other HR9 u1q hon7 hlow
     have HF7 := hF.o.other HR9 k3q hon7
     have HL7 := (rkF M).otherL hGL2.o HR9 u1q hon7 (fun g hg e => by obtain ⟨cs, h1⟩ := z8v hGL2.o g hg; rw [e, HR9] at h1; simp at h1)
     go_wp2_with fail
     refine bodyPost_ret (h1q rfl _ _ (w.heap.size + 1) _ _ _ _ rfl h7 Tryz.underlying26 rfl g8q) rfl ⟨⟨_, rfl, fa', fc', ga', gc', oa, oc, mid, ?_, HF7, ?_, ?_, Nat.le_trans (by omega) (Nat.le_of_lt hlow), HM2.o, ?_, by rw [hon7.size]; exact Nat.le_trans HXB.o (Nat.le_trans (Nat.le_of_lt HXL.o) hsz.o)⟩, ?_⟩
     ·
      show _ = Value.agg #[.int .i64 P.vars, .slice fa' P.free.length fc', .slice ga' P.goal.length gc', .slice oa (P.rows ++ m4q P.vars.toNat l bs l.length).length oc]
      rw [List.length_append, r6q, ← HEQ.o.1, ← HEQ.o.2.1, ← HEQ.o.2.2.1, ← HEQ.o.2.2.2, ← HM.o.1]
     ·
      show (rkF M).L _ (.slice ga' P.goal.length gc') P.goal
      rw [← HEQ.o.2.2.1]
      exact HL7
     ·
      show LRo (rkF M) _ mid (.slice oa (P.rows ++ m4q P.vars.toNat l bs l.length).length oc) (P.rows ++ m4q P.vars.toNat l bs l.length)
      rw [List.length_append, r6q, ← HEQ.o.1, ← HEQ.o.2.2.2, ← HM.o.1, Int.toNat_natCast]
      exact HO7
     ·
      show ∀ g, (Value.slice ga' P.goal.length gc').ownBlock = some g → g < mid
      rw [← HEQ.o.2.2.1]
      exact HM3.o
     ·
      exact q4q (q0q HB1.o hZ2.o) hon7 (Nat.le_succ _)
theorem z1q.moved (h : z1q N w v qs) (hblk : ∀ g, v.ownBlock = some g → g < w.heap.size → w'.heap[g]? = w.heap[g]?) (hf : ∀ x q, v6q N w x q → v6q N w' x q) : z1q N w' v qs := by
 obtain ⟨a, c, rfl, h⟩ := h
 refine ⟨a, c, rfl, fun i q hi => ?_⟩
 obtain ⟨B, off, b, a1, n1, c1, a2, n2, c2, rfl, h0, h1, h2, hq⟩ := h i q hi
 have e := hblk B rfl (g9q h0)
 have cell : ∀ (o : Nat) (x : Value), w.cell? ⟨B, o, none⟩ = some x → w'.cell? ⟨B, o, none⟩ = some x := fun o x hx => by
  simp only [World.cell?] at hx ⊢
  rw [e]
  exact hx
 exact ⟨B, off, b, a1, n1, c1, a2, n2, c2, rfl, cell _ _ h0, cell _ _ h1, cell _ _ h2, hf _ _ hq⟩
def rkI (N : Nat) : t1q where
 L := z1q N
 F := v6q N
 keepL := fun h hv hg hne => h.moved (fun g hgo hlt => hg.block g hlt (fun e => hne g hgo e.symm)) (fun _ _ hf => a7q hf hv hg)
 keepF := fun h hv hg => a7q h hv hg
 belowL := fun h hb => h.below hb
 belowF := fun h hb => h.below hb
 otherL := fun h hB hcs ho hne => h.moved (fun g hgo _ => ho.block g (hne g hgo)) (fun _ _ hf => s7q hf hB hcs ho)
 otherF := fun h hB hcs ho => s7q h hB hcs ho
def x2w (K : t1q) : Prop := ∀ {w : World} {v : Value} {qs : List Rat}, K.L w v qs → qs ≠ [] → ∀ g, v.ownBlock = some g → ∃ off b, w.cell? ⟨g, off, none⟩ = some (.bool b)
theorem y4y (h : z1q N w v qs) (hq : qs ≠ []) : ∀ g, v.ownBlock = some g → ∃ off b, w.cell? ⟨g, off, none⟩ = some (.bool b) := by
 obtain ⟨a, c, rfl, h⟩ := h
 intro g hg
 have h0 : 0 < qs.length := List.length_pos_iff.2 hq
 obtain ⟨B, off, b, a1, n1, c1, a2, n2, c2, rfl, h1, -⟩ := h 0 _ (List.getElem?_eq_getElem h0)
 have h9 : some B = some g := hg
 obtain rfl := Option.some.inj h9
 exact ⟨_, b, h1⟩
theorem c0q (N : Nat) : x2w (rkI N) := fun h hq => y4y h hq
theorem q6y {g off : Nat} {cs : Array Value} {t : TypeId} {fr : Nat × Nat} (hc : w.cell? ⟨g, off, none⟩ = some (.bool b)) (hg : w.heap[g]? = some (.cells cs t fr)) (hcs : ∀ (j : Nat) (b : Bool), cs[j]? ≠ some (.bool b)) : False := by
 rw [cell_of_row _ _ _ _ _ _ hg] at hc
 exact hcs _ _ hc
theorem LRo.otherB {K : t1q} (hK : x2w K) {w w' : World} {base : Nat} {v : Value} {rs : List (List Rat × Int × Rat)} {B : Nat} {cs : Array Value} {t : TypeId} {fr : Nat × Nat} (h : LRo K w base v rs) (hne0 : ∀ r ∈ rs, r.1 ≠ []) (hB : w.heap[B]? = some (.cells cs t fr)) (ht2 : t ≠ 45) (hcs : ∀ (j k : Nat), cs[j]? ≠ some (U k)) (hcb : ∀ (j : Nat) (b : Bool), cs[j]? ≠ some (.bool b)) (ho : z9q B w w') : LRo K w' base v rs := by
 obtain ⟨xs, hx, hc, he⟩ := h
 have hown : ∀ g, v.ownBlock = some g → g ≠ B := by
  intro g hg e
  rcases hx.2 with ⟨rfl, -⟩ | ⟨g', cap', cur', rfl, -, hh, -⟩
  ·
   simp [Value.ownBlock] at hg
  ·
   have h9 : some g' = some g := hg
   rw [Option.some.inj h9, e, hB] at hh
   simp only [Option.some.injEq, Obj.cells.injEq] at hh
   exact ht2 hh.2.1
 refine ⟨xs, World.ownsRow.kept (row := some B) hx (c3q ho) (by
  cases hv : v.ownBlock with
  | none => simp
  | some g => exact Or.inr (by have := hown g hv; intro e; cases e; exact this rfl)), ?_, fun j r hr => ?_⟩
 ·
  intro g cs' e fr' hv hh
  rw [ho.block g (hown g hv)] at hh
  exact hc g cs' e fr' hv hh
 ·
  obtain ⟨a, n, c, b, a1, n1, c1, a2, n2, c2, h0, h1, h2, h3, h4, hl, hf, hne⟩ := he j r hr
  exact ⟨a, n, c, b, a1, n1, c1, a2, n2, c2, h0, h1, h2, h3, h4, K.otherL hl hB hcs ho (fun g hg e => by
   obtain ⟨off, b9, h9⟩ := hK hl (hne0 r (List.mem_of_getElem? hr)) g hg
   rw [e] at h9
   exact q6y h9 hB hcb), K.otherF hf hB hcs ho, fun g hg => ⟨(hne g hg).1, Nat.lt_of_lt_of_le (hne g hg).2.1 (Nat.le_of_eq ho.size.symm), (hne g hg).2.2⟩⟩
theorem j6v : ∀ (j : Nat) (b : Bool), (#[] : Array Value)[j]? ≠ some (.bool b) := by
 intro j b h
 simp at h
theorem z2x {o : Oper} {a : Act} {C : Act → World → Prop} {Q : Exit → Act → World → Prop} (s x : Operand)
  (ho : o.op = .call { callee := .builtin .append, args := #[s, x], argTypes := #[24, 24] }) (g : Nat) (hs : a.eval s = .slice (some ⟨g, 0, none⟩) 0 0) (hg : w.heap[g]? = some (.cells #[] 45 (0, 0)))
  (B off n c : Nat) (rs : List (List Rat × Int × Rat)) (hx : a.eval x = .slice (some ⟨B, off, none⟩) n c) (hR : d6q N w (some ⟨B, off, none⟩) rs) (hnl : n = rs.length) (hn : 0 < n) (hn9 : n ≤ 1000000) (hne0 : ∀ r ∈ rs, r.1 ≠ [])
  (h : ∀ v' w', LRo (rkI N) w' 0 v' rs → w.grownBy w' (some g) → (∀ W, Below g W w → Below g W w') → (∀ k, v'.ownBlock = some k → g ≤ k) → C (a.put o.dst v') w') :
  Oper.wp Tryz.prog o a w C Q := by
 obtain ⟨i0, hi0, hz0, hz1, hz2⟩ := info_parts j6h
 have hgl : g < w.heap.size := lt_of_block hg
 have row : ∀ (i : Nat) (r : List Rat × Int × Rat), rs[i]? = some r → j2x N w B (off + i * 5) r := fun i r hr => by
  obtain ⟨B', off', ha, hf⟩ := hR i r hr
  simp only [Option.some.injEq, Addr.mk.injEq, and_true] at ha
  obtain ⟨rfl, rfl⟩ := ha
  exact hf
 obtain ⟨xs, hxl, hxs⟩ := j9x (n := n * 5) (Pr := fun k u => w.cell? ⟨B, off + k, none⟩ = some u ∧ u.oneCell' = true ∧ NoU u) (fun k hk => by
  have hk5 : k / 5 < rs.length := by omega
  obtain ⟨a1, c1, b, a2, n2, c2, a3, n3, c3, e0, e1, e2, e3, e4, -⟩ := row (k / 5) _ (List.getElem?_eq_getElem hk5)
  rcases (by omega : k = k / 5 * 5 ∨ k = k / 5 * 5 + 1 ∨ k = k / 5 * 5 + 2 ∨ k = k / 5 * 5 + 3 ∨ k = k / 5 * 5 + 4) with e | e | e | e | e
  ·
   exact ⟨_, by rw [e]; exact e0, rfl, fun j e => by cases e⟩
  ·
   exact ⟨_, by rw [e, ← Nat.add_assoc]; exact e1, rfl, fun j e => by cases e⟩
  ·
   exact ⟨_, by rw [e, ← Nat.add_assoc]; exact e2, rfl, fun j e => by cases e⟩
  ·
   exact ⟨_, by rw [e, ← Nat.add_assoc]; exact e3, rfl, fun j e => by cases e⟩
  ·
   exact ⟨_, by rw [e, ← Nat.add_assoc]; exact e4, rfl, fun j e => by cases e⟩)
 have at5 : ∀ k u, k < n * 5 → w.cell? ⟨B, off + k, none⟩ = some u → xs[k]? = some u := fun k u hk hu => by
  have h1 := List.getElem?_eq_getElem (l := xs) (i := k) (by omega)
  have h2 := (hxs k _ h1).1
  rw [hu] at h2
  rw [h1, Option.some.inj h2]
 obtain ⟨v', w', hr, h2, h3, h4, h5, -, -⟩ := f1q (P := Tryz.prog) (w := w) 0 24 o.type 45 i0 (.agg #[Value.slice none 0 0, Value.int .i64 0, Value.bool false, Value.slice none 0 0, Value.slice none 0 0]) 5 88 Tryz.underlying24 hi0 hz0 hz1 hz2 rfl (by decide) (.slice (some ⟨g, 0, none⟩) 0 0) 0 [] (q8v hg (Nat.zero_le _)) ⟨B, off, none⟩ n c
  xs hxl (by
   intro j u hu
   rw [e8q]
   exact (hxs j u hu).1) (by
   intro u hu
   obtain ⟨k, hk⟩ := List.getElem?_of_mem hu
   exact (hxs k u hk).2.1) (by unfold maxLen; omega) (by omega) (Nat.zero_le _) hn
  (by intro u hu k; simp [Value.cells] at hu; rcases hu with rfl | rfl | rfl | rfl <;> (intro e; cases e)) (by
   intro u hu
   obtain ⟨k, hk⟩ := List.getElem?_of_mem hu
   exact (hxs k u hk).2.2) (p1q hg)
 unfold Oper.wp execOp
 simp only [ho, resolve, invoke, builtin, Sem.run_bind, Sem.run_pure, Result.andThen_ok, List.map_toArray, List.map_cons, List.map_nil, hs, hx, hr]
 refine h v' w' ⟨xs, by rw [← hnl]; simpa using h2, h5, fun j r' hr' => ?_⟩ h3 ?_ (fun k hk => by
  rcases h4 with e4 | e4
  ·
   rw [e4] at hk; have h9 : some g = some k := hk; exact Nat.le_of_eq (Option.some.inj h9)
  ·
   rw [e4] at hk; have h9 := Option.some.inj hk; omega)
 ·
  have hj := (List.getElem?_eq_some_iff.1 hr').1
  obtain ⟨a1, c1, b, a2, n2, c2, a3, n3, c3, e0, e1, e2, e3, e4, hl, hf, -⟩ := row j r' hr'
  have hng : ∀ k, (Value.slice a1 r'.1.length c1).ownBlock = some k → k ≠ g ∧ k < w.heap.size := fun k hk => by
   obtain ⟨o9, b9, h9⟩ := y4y hl (hne0 r' (List.mem_of_getElem? hr')) k hk
   exact ⟨fun e => by rw [e] at h9; exact q6y h9 hg j6v, g9q h9⟩
  refine ⟨a1, _, c1, b, a2, n2, c2, a3, n3, c3, at5 _ _ (by omega) e0, at5 _ _ (by omega) (by rw [← Nat.add_assoc]; exact e1), at5 _ _ (by omega) (by rw [← Nat.add_assoc]; exact e2), at5 _ _ (by omega) (by rw [← Nat.add_assoc]; exact e3), at5 _ _ (by omega) (by rw [← Nat.add_assoc]; exact e4),
   (rkI N).keepL hl (p1q hg) h3 (fun k hk e => by have h9 : some g = some k := e; exact (hng k hk).1 (Option.some.inj h9).symm), (rkI N).keepF hf (p1q hg) h3, fun k hk => ⟨fun e => ?_, Nat.lt_of_lt_of_le (hng k hk).2 h3.size, Nat.zero_le _⟩⟩
  rcases h4 with e4 | e4
  ·
   rw [e4] at e; have h9 : some g = some k := e; exact (hng k hk).1 (Option.some.inj h9).symm
  ·
   rw [e4] at e; have h9 := Option.some.inj e; have := (hng k hk).2; omega
 ·
  intro W hW
  exact hW.grown h3 (Nat.le_of_lt hgl) (fun k hk => by have h9 : some g = some k := hk; have := Option.some.inj h9; omega)
theorem j9j {ops : Array Oper} {rest : List Oper} {o : Oper} {a : Act} {Q : Exit → Act → World → Prop} (hgd : o.guard = none) (s x : Operand)
  (ho : o.op = .call { callee := .builtin .append, args := #[s, x], argTypes := #[24, 24] }) (g : Nat) (hs : a.eval s = .slice (some ⟨g, 0, none⟩) 0 0) (hg : w.heap[g]? = some (.cells #[] 45 (0, 0)))
  (B off n c : Nat) (rs : List (List Rat × Int × Rat)) (hx : a.eval x = .slice (some ⟨B, off, none⟩) n c) (hR : d6q N w (some ⟨B, off, none⟩) rs) (hnl : n = rs.length) (hn : 0 < n) (hn9 : n ≤ 1000000) (hne0 : ∀ r ∈ rs, r.1 ≠ [])
  (h : ∀ v' w', LRo (rkI N) w' 0 v' rs → w.grownBy w' (some g) → (∀ W, Below g W w → Below g W w') → (∀ k, v'.ownBlock = some k → g ≤ k) → wpList Tryz.prog ops Q rest (a.put o.dst v') w') :
  wpList Tryz.prog ops Q (o :: rest) a w :=
 wpList_plain hgd fun _ hK => z2x s x ho g hs hg B off n c rs hx hR hnl hn hn9 hne0 fun v' w' h1 h2 h3 h4 => hK _ _ (h v' w' h1 h2 h3 h4)
theorem u9z {c : Nat} {a : Option Addr} (hR : d6q N w a rs) (hnl : n = rs.length) (hne0 : ∀ r ∈ rs, r.1 ≠ []) (hn9 : n ≤ 1000) :
  Calls Tryz.prog 63 #[.slice a n c] w fun e w' => (∃ a' c', e = .returned (.slice a' n c') ∧ LRo (rkI N) w' 0 (.slice a' n c') rs ∧ ∀ g, (Value.slice a' n c').ownBlock = some g → w.heap.size ≤ g) ∧ Below w.heap.size w w' := by
 have H := hdd hR
 have HNL := hdd hnl
 have HNE0 := hdd hne0
 obtain ⟨w1, hw1, HB1, HG1⟩ := al1 w #[] 45
 have HW1 := hdd hw1.symm
 cases a with
 | none =>
  have hn0 : n = 0 := by
   by_cases h0 : 0 < n
   ·
    obtain ⟨B, off, ha, -⟩ := hR 0 _ (List.getElem?_eq_getElem (show 0 < rs.length by omega))
    cases ha
   ·
    omega
  subst hn0
  have HR0 : Hi (rs = []) := hdd (List.eq_nil_of_length_eq_zero hnl.symm)
  have hcmp : ∀ w', Sem.run Tryz.prog (binOp BinOp.eql 24 (Value.slice none 0 c) (Value.slice none 0 0)) w' = Result.ok (Value.bool true) w' := fun _ => rfl
  clear hR hnl hne0 hw1
  go_enter Tryz.func63, Tryz.ntmps63
  go_wp2_with fail
  go_ret
  exact ⟨⟨_, _, rfl, by rw [HR0.o]; exact LRo.nil _ _ _, fun g hg => by simp [Value.ownBlock] at hg⟩, Below.refl _ _⟩
 | some ar =>
  have hcmp : ∀ w', Sem.run Tryz.prog (binOp BinOp.eql 24 (Value.slice (some ar) n c) (Value.slice none 0 0)) w' = Result.ok (Value.bool false) w' := fun _ => rfl
  by_cases hn : 0 < n
  ·
   obtain ⟨B, off, rfl⟩ : ∃ B off, ar = ⟨B, off, none⟩ := by
    obtain ⟨B, off, ha, -⟩ := hR 0 _ (List.getElem?_eq_getElem (show 0 < rs.length by omega))
    exact ⟨B, off, Option.some.inj ha⟩
   clear hR hnl hne0 hw1
   go_enter Tryz.func63, Tryz.ntmps63
   go_wp2_with (at_builtin; rw [HW1.o]; refine j9j (N := N) rfl _ _ rfl w.heap.size rfl HG1.o B off n c rs rfl (H.o.below HB1.o) HNL.o hn (by omega) HNE0.o ?_; intro v' w2 hl2 hg2 hb2 hk2; clear hg2; refine y0q ?_)
   refine z2q ?_
   have HL2 := hdd hl2
   have HK2 := hdd hk2
   have HZ2 := hdd (hb2 w HB1.o)
   obtain ⟨a2, c2, hq⟩ := hl2.form
   rw [← HNL.o] at hq
   subst hq
   clear hl2 hb2 hk2 hcmp
   go_wp2_with fail
   go_ret
   exact ⟨⟨_, _, rfl, HL2.o, HK2.o⟩, HZ2.o⟩
  ·
   have hn0 : n = 0 := by omega
   subst hn0
   have HR0 : Hi (rs = []) := hdd (List.eq_nil_of_length_eq_zero HNL.o.symm)
   have hap : ∀ w' : World, (Builtin.append_ #[24, 24] 24 #[.slice (some ⟨w.heap.size, 0, none⟩) 0 0, .slice (some ar) 0 c]).run Tryz.prog w' = .ok (.slice (some ⟨w.heap.size, 0, none⟩) 0 0) w' := fun _ => rfl
   clear hR hnl hne0 hw1
   go_enter Tryz.func63, Tryz.ntmps63
   go_wp2_with fail
   rw [HW1.o]
   go_ret
   exact ⟨⟨_, _, rfl, by rw [HR0.o]; exact ⟨[], q8v HG1.o (Nat.zero_le _), p1q HG1.o, fun j r h => by simp at h⟩, fun g hg => by have h9 : some w.heap.size = some g := hg; exact Nat.le_of_eq (Option.some.inj h9)⟩, HB1.o⟩
def a0q (n : Nat) (l : List Int) (i : Nat) : List Rat × Int × Rat := (x5q n ((l[i]?).getD 0).toNat, -1, 1)
def m5q (n : Nat) (l : List Int) (k : Nat) : List (List Rat × Int × Rat) := (List.range k).map (a0q n l)
theorem z9x (n : Nat) (l : List Int) (k : Nat) : m5q n l k ++ [a0q n l k] = m5q n l (k + 1) := by
 unfold m5q
 rw [List.range_succ, List.map_append]
 rfl
theorem n5q (n : Nat) (l : List Int) (k : Nat) : (m5q n l k).length = k := by simp [m5q]
theorem z9z {v : Nat} (h : 0 < n) : x5q n v ≠ [] := fun e => by
 have h1 := f9q n v
 rw [e] at h1
 simp at h1
 omega
theorem g6z {k : Nat} (h : 0 < n) : ∀ r ∈ m5q n l k, r.1 ≠ [] := fun r hr => by
 obtain ⟨i, -, rfl⟩ := List.mem_map.1 hr
 exact z9z h
theorem j8k {v : Nat} (hN : 2 ≤ N) : ∀ j, j < (x5q n v).length → j5q (q9q (x5q n v) j) ≤ N := fun j hj => by
 rw [f9q] at hj
 rw [v1x hj]
 have := o7q
 have := j0y
 split <;> omega
theorem g0x {fn fc gn gc rn rc : Nat} {fa ga ra : Option Addr} (hR0 : d6q N w ra rs) (hrl : rn = rs.length) (hne0 : ∀ r ∈ rs, r.1 ≠ []) (hN : 2 ≤ N) (hN9 : N ≤ 4096) (hn0 : 0 < n) (hl : v8q w va l) (hm : m = l.length) (hok : ∀ (i : Nat) (v : Int), l[i]? = some v → 0 ≤ v ∧ v < n) (hn : n ≤ 1000) (hrn : rn ≤ 1000) (hm9 : m ≤ 1000) :
  Calls Tryz.prog 73 #[.agg #[.int .i64 (n : Nat), .slice fa fn fc, .slice ga gn gc, .slice ra rn rc], .slice va m vc] w fun e w' => (∃ oa oc, e = .returned (.agg #[.int .i64 (n : Nat), .slice fa fn fc, .slice ga gn gc, .slice oa (rn + m) oc]) ∧ LRo (rkI N) w' 0 (.slice oa (rn + m) oc) (rs ++ m5q n l m)) ∧ Below w.heap.size w w' := by
 have HRN : Hi (rs.length = rn) := hdd hrl.symm
 have HNE0 := hdd hne0
 have HN2 : Hi (2 ≤ N ∧ N ≤ 4096) := hdd ⟨hN, hN9⟩
 have HI := hdd hl
 have HM : Hi (m = l.length) := hdd hm
 have HOKV := hdd hok
 have HNEB : Hi (∀ k, ∀ r ∈ rs ++ m5q n l k, r.1 ≠ []) := hdd (fun k r hr => by
  rcases List.mem_append.1 hr with h | h
  ·
   exact hne0 r h
  ·
   exact g6z hn0 r h)
 obtain ⟨w1, hw1, HB1, HX1, HO1⟩ := al2 w #[.int .i64 (n : Int), .slice fa fn fc, .slice ga gn gc, .slice ra rn rc] 26 #[.int .i64 0, .slice none 0 0, .slice none 0 0, .slice none 0 0] 26
 have HS1 : Hi (w1.heap.size = w.heap.size + 2) := hdd (by rw [hw1]; simp)
 have HW1 := hdd hw1.symm
 have KC := hdd (u9z (c := rc) (hR0.below HB1.o) hrl hne0 hrn)
 have x3 := q1q HX1.o 3 _ rfl _ qb
 clear hR0 hrl hne0 hN hN9 hl hm hok hw1
 go_enter Tryz.func73, Tryz.ntmps73
 go_wp2_with fail
 rw [HW1.o]
 refine KC.o.mono ?_
 rintro en2 w2 ⟨⟨a2, c2, rfl, hl2, hk2⟩, hb2⟩
 obtain ⟨XB, hXB⟩ := qx (w.heap.size)
 have HXB : Hi (w.heap.size = XB) := hdd hXB.symm
 have HRX : Hi (w.heap.size + 1 ≠ XB) := hdd (by omega)
 have HX2 : Hi (w2.heap[XB]? = some (.cells #[.int .i64 (n : Int), .slice fa fn fc, .slice ga gn gc, .slice ra rn rc] 26 (0, 0))) := hdd (by rw [hXB]; exact (hb2.block _ (lt_of_block HX1.o)).trans HX1.o)
 rw [← hXB]
 have HON := hdd (w6q w2 XB (Value.slice a2 rn c2))
 have HG3 : Hi ((w2.setCell ⟨XB, 3, none⟩ (Value.slice a2 rn c2)).heap[XB]? = some (.cells #[.int .i64 (n : Int), .slice fa fn fc, .slice ga gn gc, .slice a2 (rn + 0) c2] 26 (0, 0))) := hdd (a4q HX2.o)
 have HL3 : Hi (LRo (rkI N) (w2.setCell ⟨XB, 3, none⟩ (Value.slice a2 rn c2)) 0 (.slice a2 (rn + 0) c2) (rs ++ m5q n l 0)) := hdd (by
  rw [show m5q n l 0 = [] from rfl, List.append_nil]
  exact hl2.otherB (c0q N) HNE0.o HX2.o (by decide) u1q k3q HON.o)
 have HR3 := hdd ((HON.o.block _ HRX.o).trans ((hb2.block _ (lt_of_block HO1.o)).trans HO1.o))
 have HZ3 := hdd (q4q (q0q HB1.o hb2) HON.o (Nat.le_of_eq HXB.o))
 have HS3 : Hi (w.heap.size ≤ (w2.setCell ⟨XB, 3, none⟩ (Value.slice a2 rn c2)).heap.size) := hdd (by rw [HON.o.size]; have := hb2.size; have := HS1.o; omega)
 have HS4 : Hi (w.heap.size + 2 ≤ (w2.setCell ⟨XB, 3, none⟩ (Value.slice a2 rn c2)).heap.size) := hdd (by rw [HON.o.size]; have := hb2.size; have := HS1.o; omega)
 have HK3 : Hi (∀ k, (Value.slice a2 (rn + 0) c2).ownBlock = some k → w.heap.size + 2 ≤ k) := hdd (fun k hk => by have h1 := hk2 k hk; have := HS1.o; omega)
 have g3 := q1q HX2.o 3 _ rfl _ qb
 have g4 := frozen_of_row _ _ 3 _ _ HX2.o
 clear hl2 hk2 hb2 hXB KC x3
 go_wp2_with fail
 clear g3 g4
 go_loopw [13] (fun iv wr => ∃ (i : Nat) (oa : Option Addr) (oc : Nat), i ≤ m ∧ iv = .int .i64 i ∧ Hi (wr.heap[XB]? = some (.cells #[.int .i64 (n : Int), .slice fa fn fc, .slice ga gn gc, .slice oa (rn + i) oc] 26 (0, 0))) ∧ Hi (LRo (rkI N) wr 0 (.slice oa (rn + i) oc) (rs ++ m5q n l i)) ∧ Hi (wr.heap[w.heap.size + 1]? = some (.cells #[.int .i64 0, .slice none 0 0, .slice none 0 0, .slice none 0 0] 26 (0, 0))) ∧ Hi (Below w.heap.size w wr) ∧ Hi (w.heap.size ≤ wr.heap.size) ∧ Hi (w.heap.size + 2 ≤ wr.heap.size) ∧ Hi (∀ k, (Value.slice oa (rn + i) oc).ownBlock = some k → w.heap.size + 2 ≤ k)) (fun iv _ => m - (intOf iv).toNat)
 case atStart => exact ⟨0, _, _, Nat.zero_le _, rfl, HG3, HL3, HR3, HZ3, HS3, HS4, HK3⟩
 case round =>
  obtain ⟨i, oa, oc, hi, rfl, hG, hO, hR, hZ, hsz, hsz2, hob⟩ := hrel
  obtain ⟨wo, rfl⟩ : ∃ wo : World, wo = wr := ⟨_, rfl⟩
  by_cases hin : i < m
  ·
   have t0 : decide ((i : Int) < (m : Int)) = true := by simp; omega
   obtain ⟨z, Bv, offv, hz, ha, hzb, hcv⟩ := HI.o.at (i := i) (by have := HM.o; omega)
   obtain ⟨v, rfl⟩ : ∃ v : Nat, z = (v : Int) := ⟨z.toNat, by have := (HOKV.o i z hz).1; omega⟩
   have hvn : v < n := by have := (HOKV.o i _ hz).2; omega
   subst ha
   have e1 := hcv wo hZ.o
   have HBR : Hi ((a0q n l i).1 = x5q n v ∧ (a0q n l i).2.2 = 1) := hdd (by
    unfold a0q
    rw [hz]
    exact ⟨rfl, rfl⟩)
   have KA := hdd (fun w' => v4v (w := w') (s := -1) hvn hn a9q (by decide) (by decide))
   have RY := hdd (q1q hG.o)
   have hz : Below wo.heap.size wo wo.drew := q5q qb 1
   clear hcv
   go_wp2_with fail
   refine h2q 9 (fun w' => w'.cell? ⟨XB, 0, none⟩ = some (.int .i64 (n : Nat)) ∧ w'.cell? ⟨XB, 3, none⟩ = some (.slice oa (rn + i) oc)) (by kernel_rfl) (by (try dsimp only); refine ⟨?_, ?_⟩ <;> (first | exact RY.o _ _ rfl _ (by assumption))) (fun hHeld => ?_)
   refine tt 0 ?_
   refine tt 1 ?_
   refine tt 2 ?_
   refine tt 3 ?_
   refine tt 4 ?_
   refine y6q (rs := [5]) (by kernel_rfl) (by simp) (z0q.cons (o := _) rfl (fun K hK => ?_) z0q.nil)
   go_simp
   refine (KA.o _).mono ?_
   rintro en7 w7 ⟨⟨ar7, bb7, a7, n7, c7, i7, j7, k7, rfl, hl7, hf7, hn7⟩, hb7⟩
   have hn7 : ∀ k, (Value.slice ar7 n n).ownBlock = some k → wo.heap.size ≤ k := fun k hk => Nat.le_trans hz.size (hn7 k hk)
   have hlk7 : ∀ k, (Value.slice ar7 n n).ownBlock = some k → k < w7.heap.size := fun k hk => hl7.lt9 k hk
   have hz := q0q hz hb7
   try go_wp2_with fail
   refine hK.out _ _ (fun _ => ?_) (fun hHeld => ?_)
   ·
    (try dsimp only); refine ⟨?_, ?_⟩ <;> (first | exact RY.o _ _ rfl _ (by assumption))
   replace hHeld := hHeld (by decide)
   clear hK K
   try refine lyt ?_
   refine y6q (rs := [6]) (by kernel_rfl) (by simp) (z0q.cons (o := _) rfl (fun K hK => ?_) z0q.nil)
   go_simp
   obtain ⟨w8, hw8⟩ : ∃ w', w' = w7.alloc (Obj.cells #[.slice ar7 n n, .int .i64 (-1), .bool bb7, .slice a7 n7 c7, .slice i7 j7 k7] 45) := ⟨_, rfl⟩
   have hb8 : Below w7.heap.size w7 w8 := by rw [hw8]; exact (qb).alloc qm _
   have hr8 : w8.heap[w7.heap.size]? = some (.cells #[.slice ar7 n n, .int .i64 (-1), .bool bb7, .slice a7 n7 c7, .slice i7 j7 k7] 45 (0, 0)) := by rw [hw8]; exact heap_alloc_new w7 _
   rw [← hw8]
   clear hw8
   have hz := q0q hz hb8
   have hl8 : z1q N w8 (.slice ar7 n n) (x5q n v) := z1q.below (g2q.list hl7 (j8k HN2.o.1) HN2.o.2) hb8
   have hf8 : v6q N w8 (.agg #[.bool bb7, .slice a7 n7 c7, .slice i7 j7 k7]) 1 := v6q.below (a8q hf7 (Nat.le_trans o7q HN2.o.1) HN2.o.2) hb8
   refine hK.out _ _ (fun _ => ?_) (fun hHeld => ?_)
   ·
    (try dsimp only); refine ⟨?_, ?_⟩ <;> (first | exact RY.o _ _ rfl _ (by assumption))
   replace hHeld := hHeld (by decide)
   clear hK K
   try refine lyt ?_
   refine y6q (rs := [7]) (by kernel_rfl) (by simp) (z0q.cons (o := _) rfl (fun K hK => ?_) z0q.nil)
   rw [if_pos (by kernel_rfl)]
   have HO8 := hO.o.below hz
   have hlt8 := hO.o.lt
   refine l7q (K := (rkI N)) _ _ rfl 0 (Value.slice oa (rn + i) oc) (rs ++ m5q n l i) rfl HO8 w7.heap.size 1 ar7 n n bb7 a7 i7 n7 c7 j7 k7 (a0q n l i) rfl hr8 (by rw [show (a0q n l i).1 = x5q n v from HBR.o.1]; exact hl8) (by rw [show (a0q n l i).2.2 = 1 from HBR.o.2]; exact hf8) (fun k hk => ⟨fun e => by have h1 := hn7 k hk; have h2 := (hlt8 k e).2; omega, Nat.lt_of_lt_of_le (hlk7 k hk) hb8.size, Nat.zero_le _⟩) (by rw [List.length_append, n5q]; have := HRN.o; omega) (Nat.zero_le _) ?_
   intro v9 w9 hown9 hg9 hbel9 hat9
   rw [List.append_assoc, z9x] at hown9
   have HX9 := (hg9.block _ (Nat.lt_of_lt_of_le (lt_of_block hG.o) hz.size) (fun e => by have h1 := hob.o _ e.symm; have h2 := HXB.o; omega)).trans ((hz.block _ (lt_of_block hG.o)).trans hG.o)
   have HR9 := (hg9.block _ (Nat.lt_of_lt_of_le (lt_of_block hR.o) hz.size) (fun e => by have h1 := hob.o _ e.symm; have h2 := HXB.o; omega)).trans ((hz.block _ (lt_of_block hR.o)).trans hR.o)
   have HW9 : Below w.heap.size w w9 := (q0q hZ.o hz).grown hg9 (Nat.le_trans hsz.o hz.size) (fun k hk => by have := hob.o k hk; omega)
   have HS9 := Nat.le_trans hsz.o (Nat.le_trans hz.size hg9.size)
   obtain ⟨na, nc, hv9⟩ := hown9.form
   rw [List.length_append, n5q, HRN.o, ← Nat.add_assoc] at hv9
   subst hv9
   have HOB9 : ∀ k, (Value.slice na (rn + i + 1) nc).ownBlock = some k → w.heap.size + 2 ≤ k := fun k hk => by
    rcases hat9 with e4 | e4
    ·
     rw [e4] at hk; exact hob.o k hk
    ·
     rw [e4] at hk
     have h1 := Option.some.inj hk
     have h2 := Nat.le_trans hsz2.o hz.size
     omega
   have HS29 := Nat.le_trans hsz2.o (Nat.le_trans hz.size hg9.size)
   refine hK.out _ _ (fun _ => ?_) (fun hHeld => ?_)
   ·
    (try dsimp only); refine ⟨?_, ?_⟩ <;> (first | exact q1q HX9 0 _ rfl _ qb | exact q1q HX9 3 _ rfl _ qb)
   replace hHeld := hHeld (by decide)
   clear hK K
   try refine lyt ?_
   refine tt 8 ?_
   refine y6q (rs := [9]) (by kernel_rfl) (by simp) (z0q.cons (o := _) rfl (fun K hK => ?_) z0q.nil)
   have g3 := q1q HX9 3 _ rfl _ qb
   have g4 := frozen_of_row _ _ 3 _ _ HX9
   go_simp
   refine hK.out _ _ (fun h => absurd rfl h) (fun _ => ?_)
   clear hK K
   try refine lyt ?_
   refine d3q (by kernel_rfl) ?_ _
   have HON := w6q w9 XB (Value.slice na (rn + i + 1) nc)
   have HG10 := hdd (a4q HX9 (v := Value.slice na (rn + i + 1) nc))
   have HO10 := hdd (hown9.otherB (c0q N) (HNEB.o (i + 1)) HX9 (by decide) u1q k3q HON)
   have HR10 := hdd ((HON.block _ (fun e => HRX.o e)).trans HR9)
   have HZ10 := hdd (q4q HW9 HON (Nat.le_of_eq HXB.o))
   have HS10 : Hi (w.heap.size ≤ (w9.setCell ⟨XB, 3, none⟩ (Value.slice na (rn + i + 1) nc)).heap.size) := hdd (by rw [HON.size]; exact HS9)
   have HS20 : Hi (w.heap.size + 2 ≤ (w9.setCell ⟨XB, 3, none⟩ (Value.slice na (rn + i + 1) nc)).heap.size) := hdd (by rw [HON.size]; exact HS29)
   have HOB10 := hdd HOB9
   clear HON HX9 HW9 HS9 HR9 HOB9 hown9
   go_wp2_with fail
   go_roundw
   case rel => exact ⟨i + 1, _, _, by omega, by go_num, HG10, HO10, HR10, HZ10, HS10, HS20, HOB10⟩
   case measure => simp [intOf]; omega
  ·
   have t0 : decide ((i : Int) < (m : Int)) = false := by simp; omega
   obtain rfl : i = m := by omega
   have hR9 : wo.heap[XB + 1]? = some (.cells #[.int .i64 0, .slice none 0 0, .slice none 0 0, .slice none 0 0] 26 (0, 0)) := by rw [← HXB.o]; exact hR.o
   have g0 := q1q hG.o 0 _ rfl _ qb
   have g1 := q1q hG.o 1 _ rfl _ qb
   have g2 := q1q hG.o 2 _ rfl _ qb
   have g3 := q1q hG.o 3 _ rfl _ qb
   go_wp2_with ((with_reducible refine j9q ?_); refine q6q rfl _ _ _ rfl (XB + 1) rfl _ rfl _ _ hR9 g8q rfl b9q ?_; intro w5 h5 hon5; refine y0q ?_)
   refine z2q ?_
   have HO5 := hO.o.otherB (c0q N) (HNEB.o i) hR9 (by decide) u1q k3q hon5
   go_wp2_with fail
   exact bodyPost_ret (results_cell_row rfl _ _ (XB + 1) _ _ _ _ rfl h5 Tryz.underlying26 rfl g8q) rfl ⟨⟨_, _, rfl, HO5⟩, q4q hZ.o hon5 (by have := HXB.o; omega)⟩
end Go.Proofs.YtkkbmlkpgknhgaaGreat
