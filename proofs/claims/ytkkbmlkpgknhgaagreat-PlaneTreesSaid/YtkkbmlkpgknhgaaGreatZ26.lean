import Derived.Test.YtkkbmlkpgknhgaaGreatZ25
import Derived.Deep.RegionHeld3
import Derived.Deep.DrawnRows
import Derived.BigQuiet
import Derived.Test.YtkkbmlkpgknhgaaGreatZ18
set_option maxRecDepth 100000
set_option maxHeartbeats 16000000
namespace Go.Proofs.YtkkbmlkpgknhgaaGreat
open Go.RowKit
attribute [local go_sem ↓] Go.wp_at_zero Go.wp_at_succ
variable {P : Pm} {k : Int} {l : List Int} {tx : List Rat}
def t9q (P : Pm) (k : Int) (tx : List Rat) : Option Rat := if k = 1 then some (y5q P tx) else none
theorem u0k {vs bs : List Int} {c : k9q} (h : j7q P = true) : s0q (u7q P l vs bs) (t9q P k tx) c = (j4q (u7q P l vs bs) c.kind c.xs c.ys c.zs && (decide (c.kind = 2) || (decide (c.kind = 1) && decide (k = 1) && decide (z7q (y5q P c.xs) (y5q P tx) ≤ 0)))) := by
 unfold s0q t9q z7w
 by_cases hk : k = 1
 ·
  rw [if_pos hk, u3v h]
  simp [hk]
 ·
  rw [if_neg hk]
  simp [hk]
theorem u9w {w0 : World} {Cs : List k9q} {n : Nat} {fa : Option Addr} {fn fc : Nat} {ga : Option Addr} {gn gc : Nat} {ra : Option Addr} {rn rc : Nat} {va : Option Addr} {m vc : Nat} {xa : Option Addr} {xn xc : Nat} {za : Option Addr} {zn zc : Nat} {ca : Option Addr} {cn cc : Nat}
  (hP : y9q 13 w0 (.agg #[.int .i64 (n : Nat), .slice fa fn fc, .slice ga gn gc, .slice ra rn rc]) P) (hs : c9q 13 P) (ht : q5z P l) (hl : v8q w0 va l) (hm : m = l.length) (hC : q1y w0 ca Cs) (hcn : cn = Cs.length) (hcn8 : cn ≤ 800) (hX : z1q 13 w0 (.slice xa xn xc) tx) (htx : tx.length ≤ 41) :
  ∀ (f i m9 : Nat) (vs bs : List Int) (w : World) (vva : Option Addr) (vvc : Nat) (bva : Option Addr) (bvc : Nat), Below w0.heap.size w0 w → v8q w vva vs → v8q w bva bs → vs.length ≤ vvc → i < cn → cn - i ≤ f → m9 ≤ 800 → Way P l vs bs →
   Calls Tryz.prog 50 #[.agg #[.int .i64 (n : Nat), .slice fa fn fc, .slice ga gn gc, .slice ra rn rc], .slice va m vc, .agg #[.int .i64 k, .slice xa xn xc, .slice za zn zc, .slice ca cn cc], .int .i64 i, .slice vva vs.length vvc, .slice bva bs.length bvc, .int .i64 (m9 : Nat)] w fun e w' => e = .returned (.tuple #[.int .i64 ((u6q P l (t9q P k tx) Cs f i m9 vs bs).1 : Nat), .bool (u6q P l (t9q P k tx) Cs f i m9 vs bs).2]) ∧ Below w.heap.size w w' := by
 have HP0 := hdd hP
 have HSM := hdd hs
 have HT := hdd ht
 have HL0 := hdd hl
 have HM : Hi (m = l.length) := hdd hm
 have HC0 := hdd hC
 have HCN : Hi (cn = Cs.length ∧ cn ≤ 800) := hdd ⟨hcn, hcn8⟩
 have HTX0 := hdd hX
 have HTXL : Hi (tx.length ≤ 41) := hdd htx
 have HRB := hdd ht.right
 clear hP hs ht hl hm hC hcn hcn8 hX htx
 intro f
 induction f with
 | zero => intro i m9 vs bs w vva vvc bva bvc _ _ _ _ hi hf; omega
 | succ f ih =>
 intro i m9 vs bs w vva vvc bva bvc hb0 hV hB hvc hi hf hm9 hway
 have IH := hdd ih
 have HI : Hi (i < cn ∧ cn - i ≤ f + 1 ∧ m9 ≤ 800 ∧ vs.length ≤ vvc) := hdd ⟨hi, hf, hm9, hvc⟩
 have HWAY := hdd hway
 have HB0 := hdd hb0
 have HV := hdd hV
 have HBS := hdd hB
 have hl6 : vs.length ≤ 6 := by have := hway.few; have := HT.o.len; omega
 have HL6 : Hi (vs.length ≤ 6 ∧ bs.length ≤ 6) := hdd ⟨hl6, by rw [← hway.len]; exact hl6⟩
 clear ih hf hm9 hway hb0 hV hB hvc hl6
 obtain ⟨w1, hw1, HB1, HX1, HY1⟩ := al2 w #[.int .i64 (n : Nat), .slice fa fn fc, .slice ga gn gc, .slice ra rn rc] 26 #[.int .i64 k, .slice xa xn xc, .slice za zn zc, .slice ca cn cc] 37
 have HW1 := hdd hw1.symm
 clear hw1
 have RX := hdd (q1q HX1.o)
 have RY := hdd (q1q HY1.o)
 have y3 := RY.o 3 _ rfl _ qb
 by_cases hm0 : m9 = 0
 ·
  have t1 : decide ((m9 : Int) < 1) = true := by simp; omega
  go_enter Tryz.func50, Tryz.ntmps50
  go_wp2_with fail
  rw [HW1.o]
  go_ret2
  rw [hm0, v8v]
  exact ⟨rfl, HB1.o⟩
 have t1 : decide ((m9 : Int) < 1) = false := by simp; omega
 have HM0 : Hi (m9 ≠ 0) := hdd hm0
 clear hm0
 obtain ⟨M9, hM9⟩ : ∃ M : Int, M = (m9 : Int) := ⟨_, rfl⟩
 rw [← hM9] at t1 ⊢
 have HM9 : Hi (M9 = (m9 : Int)) := hdd hM9
 clear hM9
 obtain ⟨cq, hcq⟩ : ∃ c, Cs[i]? = some c := ⟨_, List.getElem?_eq_getElem (by have := HCN.o; have := HI.o; omega)⟩
 have HCQ := hdd hcq
 obtain ⟨CB, coff, pa, pc, qa, qc, sa, sc, hca, hcf, hcl, hr1, hr2, hr3, hcell⟩ := HC0.o i cq hcq
 subst hca
 have hb01 : Below w0.heap.size w0 w1 := HB0.o.trans (HB1.o.mono HB0.o.size)
 have HB01 := hdd hb01
 have HCF := hdd (hcf.below hb01)
 have f0 := q3q hb01 (hcell 0 _ rfl)
 have f1 := q3q hb01 (hcell 1 _ rfl)
 have f2 := q3q hb01 (hcell 2 _ rfl)
 have f3 := q3q hb01 (hcell 3 _ rfl)
 have f4 := q3q hb01 (hcell 4 _ rfl)
 have f5 := q3q hb01 (hcell 5 _ rfl)
 have f6 := q3q hb01 (hcell 6 _ rfl)
 simp only [Nat.add_zero] at f0
 have t0 : decide ((i : Int) < (cn : Int)) = true := by have := HI.o; simp; omega
 have HCL := hdd hcl
 clear hcq hcf hcl hr1 hr2 hr3 hcell hb01
 obtain ⟨cvar, hcvar⟩ := qx (cq.var)
 obtain ⟨czero, hczero⟩ := qx (cq.zero)
 obtain ⟨cone, hcone⟩ := qx (cq.one)
 obtain ⟨ck, hck⟩ := qx (cq.kind)
 obtain ⟨pn, hpn⟩ := qx (cq.xs.length)
 obtain ⟨qn, hqn⟩ := qx (cq.ys.length)
 obtain ⟨sn, hsn⟩ := qx (cq.zs.length)
 rw [← hcvar] at f0
 rw [← hczero] at f1
 rw [← hcone] at f2
 rw [← hck] at f3 HCF
 rw [← hpn] at f4 HCF
 rw [← hqn] at f5 HCF
 rw [← hsn] at f6 HCF
 have HNM := hdd (And.intro hcvar (And.intro hczero (And.intro hcone (And.intro hck hpn))))
 clear hcvar hczero hcone hck hpn hqn hsn
 obtain ⟨w5, hw5⟩ := qx (w1.alloc (Obj.cells #[.int .i64 cvar, .int .i64 czero, .int .i64 cone, .int .i64 ck, .slice pa pn pc, .slice qa qn qc, .slice sa sn sc] 68))
 have hb5 : Below w1.heap.size w1 w5 := by rw [hw5]; exact (qb).alloc qm _
 have h5 : w5.heap[w1.heap.size]? = some (.cells #[.int .i64 cvar, .int .i64 czero, .int .i64 cone, .int .i64 ck, .slice pa pn pc, .slice qa qn qc, .slice sa sn sc] 68 (0, 0)) := by rw [hw5]; exact heap_alloc_new _ _
 have HW5 := hdd hw5.symm
 have HB5 := hdd hb5
 have HBW5 : Hi (Below w.heap.size w w5) := hdd (q0q HB1.o hb5)
 have HB05 : Hi (Below w0.heap.size w0 w5) := hdd (HB0.o.trans (HBW5.o.mono HB0.o.size))
 have HS1 : Hi (w1.heap.size = w.heap.size + 1 + 1) := hdd (by rw [← HW1.o]; simp only [World.alloc, Array.size_push])
 rw [HS1.o] at h5
 have HH5 := hdd h5
 have RC := hdd (q1q h5)
 clear h5 hb5 hw5
 rw [← HW1.o] at f0 f1 f2 f3 f4 f5 f6 y3
 by_cases hvar : cvar = -1
 ·
  subst hvar
  have HPN0 : Hi (y9q 13 w5 (.agg #[.int .i64 (n : Nat), .slice fa fn fc, .slice ga gn gc, .slice ra rn rc]) P) := hdd (HP0.o.below HB05.o)
  have KN := hdd (g2h (N := 13) (M := 13) (m2 := vs.length) (vc := vc) (vc2 := vvc) (bc := bvc) HPN0.o HRB.o HSM.o (by omega) (by omega) (by omega) (by have := HT.o.vars; omega) (by have := HT.o.rows; have := HT.o.len; omega) (HL0.o.below HB05.o) HM.o HT.o.ok (HV.o.below HBW5.o) (HBS.o.below HBW5.o) rfl HWAY.o.len (by have := HL6.o; omega) HI.o.2.2.2 HWAY.o.ok HWAY.o.bit)
  rw [HWAY.o.len] at KN
  rw [← HWAY.o.len] at KN
  have hmm : vs.length = bs.length := HWAY.o.len
  rw [← hmm]
  clear hmm
  go_enter Tryz.func50, Tryz.ntmps50
  go_wp2_with fail
  rw [HW1.o, HW5.o]
  refine KN.o.mono ?_
  rintro en6 w6 ⟨⟨r6, base6, rfl, hp6⟩, hb6⟩
  have HPN : Hi (y9q 13 w6 r6 (u7q P l vs bs)) := hdd (hp6.readF (j4x HRB.o) (by show P.vars ≤ 1000; have := HT.o.vars; omega))
  obtain ⟨fa6, fc6, ga6, gc6, oa6, oc6, mid6, hq6, -⟩ := id hp6
  obtain ⟨z6, hz6⟩ := qx ((u7q P l vs bs).vars)
  obtain ⟨fr6, hf6⟩ := qx ((u7q P l vs bs).free.length)
  obtain ⟨gr6, hg6⟩ := qx ((u7q P l vs bs).goal.length)
  obtain ⟨o6, ho6⟩ := qx ((u7q P l vs bs).rows.length)
  rw [← hz6, ← hf6, ← hg6, ← ho6] at hq6
  subst hq6
  have HB6 := hdd hb6
  clear hp6 hb6 hz6 hf6 hg6 ho6 KN f0 f1 f2 f3 f4 f5 f6 t0 t1 y3
  go_wp2_with ((with_reducible refine j9q ?_); refine q6q rfl _ _ _ rfl w6.heap.size rfl _ rfl _ _ (heap_alloc_new _ _) g8q rfl b9q ?_; intro w7 h7 hon7; refine y0q ?_)
  have hb7 : Below w6.heap.size w6 w7 := q4q ((qb).alloc qm _) hon7 qm
  have HB57 : Hi (Below w5.heap.size w5 w7) := hdd (q0q HB6.o hb7)
  have HPN7 := hdd (HPN.o.below hb7)
  have RN := hdd (q1q h7)
  have HBW7 : Hi (Below w.heap.size w w7) := hdd (q0q HBW5.o HB57.o)
  clear h7 hon7 hb7
  refine z2q ?_
  obtain ⟨n0, n1, n2, n3⟩ := qz RN.o qb
  have y3 := RC.o 3 _ rfl _ HB57.o
  have y4 := RC.o 4 _ rfl _ HB57.o
  have y5 := RC.o 5 _ rfl _ HB57.o
  have y6 := RC.o 6 _ rfl _ HB57.o
  have KJ := hdd (x6y HPN7.o (HCF.o.below (q0q HB5.o HB57.o)) (HT.o.sizes HWAY.o HCL.o.1 HCL.o.2))
  obtain ⟨jb, hjb⟩ := qx (j4q (u7q P l vs bs) ck cq.xs cq.ys cq.zs)
  rw [← hjb] at KJ
  have HE : Hi (s0q (u7q P l vs bs) (t9q P k tx) cq = (jb && (decide (ck = 2) || (decide (ck = 1) && decide (k = 1) && decide (z7q (y5q P cq.xs) (y5q P tx) ≤ 0))))) := hdd (by rw [u0k HRB.o, ← HNM.o.2.2.2.1, ← hjb])
  have HVL := hdd (z6h (P := P) (l := l) (lim := t9q P k tx) (Cs := Cs) (f := f) (i := i) (m := m9) (vs := vs) (bs := bs) HM0.o HCQ.o HNM.o.1.symm)
  obtain ⟨q9, hq9⟩ := qx (s0q (u7q P l vs bs) (t9q P k tx) cq)
  rw [← hq9] at HE HVL
  clear hjb hq9
  go_wp2_with fail
  refine KJ.o.mono ?_
  rintro en8 w8 ⟨rfl, hb8⟩
  have HB8 := hdd (q0q HB57.o hb8)
  have HB78 := hdd hb8
  have HBW8 : Hi (Below w.heap.size w w8) := hdd (q0q HBW7.o hb8)
  clear hb8 n0 n1 n2 n3 y3 y4 y5 y6 KJ
  cases jb with
  | false =>
   go_wp2_with fail
   go_ret2
   rw [HVL.o]
   exact ⟨by rw [HE.o]; first | done | rfl, HBW8.o⟩
  | true =>
  have y3 := RC.o 3 _ rfl _ HB8.o
  by_cases hk2 : ck = 2
  ·
   have u2 : (ck == 2) = true := by simpa using hk2
   have HQ : Hi (q9 = true) := hdd (by rw [HE.o]; simp [hk2])
   clear hk2
   go_wp2_with fail
   go_ret2
   rw [HVL.o]
   exact ⟨by rw [HQ.o]; first | done | rfl, HBW8.o⟩
  have u2 : (ck == 2) = false := by simpa using hk2
  by_cases hk1 : ck = 1
  rotate_left
  ·
   have u1 : (ck == 1) = false := by simpa using hk1
   have HQ : Hi (q9 = false) := hdd (by rw [HE.o]; simp [hk2, hk1])
   clear hk1 hk2
   go_wp2_with fail
   go_quiet (fail)
   go_wp2_with fail
   go_ret2
   rw [HVL.o]
   exact ⟨by rw [HQ.o]; first | done | rfl, q5q HBW8.o _⟩
  have u1 : (ck == 1) = true := by simpa using hk1
  have yk := RY.o 0 _ rfl _ (q0q HB5.o HB8.o)
  by_cases hk : k = 1
  rotate_left
  ·
   have u3 : (k == 1) = false := by simpa using hk
   have HQ : Hi (q9 = false) := hdd (by rw [HE.o]; simp [hk2, hk1, hk])
   clear hk1 hk2 hk
   go_wp2_with fail
   go_quiet (fail)
   go_wp2_with fail
   go_ret2
   rw [HVL.o]
   exact ⟨by rw [HQ.o]; first | done | rfl, q5q HBW8.o _⟩
  have u3 : (k == 1) = true := by simpa using hk
  have HQ0 : Hi (q9 = decide (z7q (y5q P cq.xs) (y5q P tx) ≤ 0)) := hdd (by rw [HE.o]; simp [hk2, hk1, hk])
  clear hk1 hk2 hk yk
  have HX8 : Hi (∀ w', Below w5.heap.size w5 w' → z1q 13 w' (.slice pa pn pc) cq.xs) := hdd (fun w' hb => by
   obtain ⟨xa', xc', ya', yc', za', zc', hq, hX, -, -⟩ := id (HCF.o.below (q0q HB5.o hb))
   simp only [Value.agg.injEq, Array.mk.injEq, List.cons.injEq, Value.slice.injEq, and_true, true_and] at hq
   obtain ⟨⟨rfl, e, rfl⟩, -, -⟩ := hq
   rw [e]
   exact hX)
  have KV1 := hdd (fun w' (hb : Below w5.heap.size w5 w') => z2h (HPN0.o.below hb) (HX8.o w' hb) (HT.o.sizes0 HCL.o.1))
  have KV2 := hdd (fun w' (hb : Below w5.heap.size w5 w') => z2h (HPN0.o.below hb) ((HTX0.o.below HB05.o).below hb) (HT.o.sizes0 HTXL.o))
  have HVL1 : Hi (j5q (y5q P cq.xs) ≤ 4002) := hdd (h8q HPN0.o (HX8.o _ qb) (by have := HCL.o; omega) (by have := HCL.o; omega))
  have HVL2 : Hi (j5q (y5q P tx) ≤ 4002) := hdd (h8q HPN0.o (HTX0.o.below HB05.o) (by have := HTXL.o; omega) (by have := HTXL.o; omega))
  obtain ⟨V1, hV1⟩ := qx (y5q P cq.xs)
  obtain ⟨V2, hV2⟩ := qx (y5q P tx)
  rw [← hV1] at HVL1 KV1 HQ0
  rw [← hV2] at HVL2 KV2 HQ0
  obtain ⟨o, ho⟩ := qx (z7q V1 V2)
  have KC : Hi (∀ w' y y2, j3q w' y V1 → j3q w' y2 V2 → Calls Tryz.prog 66 #[y, y2] w' fun e w'' => e = .returned (.int .i64 o) ∧ Below w'.heap.size w' w'') := hdd (fun w' y y2 hy hy2 => by rw [ho]; exact j1x (n := 4096) (m := 4096) (hy.sz (by have := HVL1.o; omega) (by have := HVL1.o; omega)) (hy2.sz (by have := HVL2.o; omega) (by have := HVL2.o; omega)) (by omega) (by omega))
  rw [← ho] at HQ0
  obtain ⟨cb, hcb⟩ := qx (decide (o ≤ 0))
  rw [← hcb] at HQ0
  have hcb9 : decide (o ≤ 0) = cb := hcb.symm
  clear hV1 hV2 ho hcb
  have hz : Below w5.heap.size w5 w8.drew := q5q HB8.o 1
  have hx : Below w1.heap.size w1 w8.drew := q0q HB5.o hz
  have hv : Below w.heap.size w w8.drew := q0q HB1.o hx
  go_wp2_with fail
  refine k4q [] (fun w' => w'.cell? ⟨w.heap.size + 1 + 1, 3, none⟩ = some (.int .i64 ck) ∧ w'.cell? ⟨w.heap.size + 1, 0, none⟩ = some (.int .i64 k) ∧ w'.cell? ⟨w.heap.size, 0, none⟩ = some (.int .i64 (n : Nat)) ∧ w'.cell? ⟨w.heap.size, 1, none⟩ = some (.slice fa fn fc) ∧ w'.cell? ⟨w.heap.size, 2, none⟩ = some (.slice ga gn gc) ∧ w'.cell? ⟨w.heap.size, 3, none⟩ = some (.slice ra rn rc) ∧ w'.cell? ⟨w.heap.size + 1 + 1, 4, none⟩ = some (.slice pa pn pc) ∧ w'.cell? ⟨w.heap.size + 1, 1, none⟩ = some (.slice xa xn xc)) (by kernel_rfl) (by (try dsimp only); exact ⟨RC.o 3 _ rfl _ hz, RY.o 0 _ rfl _ hx, RX.o 0 _ rfl _ hx, RX.o 1 _ rfl _ hx, RX.o 2 _ rfl _ hx, RX.o 3 _ rfl _ hx, RC.o 4 _ rfl _ hz, RY.o 1 _ rfl _ hx⟩) (fun hHeld => ?_)
  refine fp 0 ?_
  refine fp 1 ?_
  refine ft 2 ?_
  refine fp 3 ?_
  refine fp 4 ?_
  refine fp 5 ?_
  refine ft 6 ?_
  refine fp 7 ?_
  refine fp 8 ?_
  refine fp 9 ?_
  refine ft 10 ?_
  refine fp 11 ?_
  refine fp 12 ?_
  refine ft 13 ?_
  refine ft 15 ?_
  refine fp 16 ?_
  refine ft 17 ?_
  refine z8q (rs := [14]) (by kernel_rfl) (by simp) (j1q.cons (o := _) rfl (fun K hK => ?_) j1q.nil)
  go_simp
  refine (KV1.o _ hz).mono ?_
  rintro en9 w9 ⟨⟨v9, rfl, f9⟩, hb9⟩
  have hz := q0q hz hb9
  have hx := q0q hx hb9
  have hv := q0q hv hb9
  try go_wp2_with fail
  refine hK.out _ _ (fun _ => ?_) (fun hHeld => ?_)
  ·
   (try dsimp only); exact ⟨RC.o 3 _ rfl _ hz, RY.o 0 _ rfl _ hx, RX.o 0 _ rfl _ hx, RX.o 1 _ rfl _ hx, RX.o 2 _ rfl _ hx, RX.o 3 _ rfl _ hx, RC.o 4 _ rfl _ hz, RY.o 1 _ rfl _ hx⟩
  replace hHeld := hHeld (by decide)
  clear hK K
  try refine lyf ?_
  refine z8q (rs := [18]) (by kernel_rfl) (by simp) (j1q.cons (o := _) rfl (fun K hK => ?_) j1q.nil)
  go_simp
  refine (KV2.o _ hz).mono ?_
  rintro en10 w10 ⟨⟨v10, rfl, f10⟩, hb10⟩
  have f9 := f9.below hb10
  have hz := q0q hz hb10
  have hx := q0q hx hb10
  have hv := q0q hv hb10
  try go_wp2_with fail
  refine hK.out _ _ (fun _ => ?_) (fun hHeld => ?_)
  ·
   (try dsimp only); exact ⟨RC.o 3 _ rfl _ hz, RY.o 0 _ rfl _ hx, RX.o 0 _ rfl _ hx, RX.o 1 _ rfl _ hx, RX.o 2 _ rfl _ hx, RX.o 3 _ rfl _ hx, RC.o 4 _ rfl _ hz, RY.o 1 _ rfl _ hx⟩
  replace hHeld := hHeld (by decide)
  clear hK K
  try refine lyf ?_
  refine z8q (rs := [19]) (by kernel_rfl) (by simp) (j1q.cons (o := _) rfl (fun K hK => ?_) j1q.nil)
  go_simp
  refine (KC.o _ _ _ f9 f10).mono ?_
  rintro en11 w11 ⟨rfl, hb11⟩
  have hz := q0q hz hb11
  have hx := q0q hx hb11
  have hv := q0q hv hb11
  try go_wp2_with fail
  refine hK.out _ _ (fun _ => ?_) (fun hHeld => ?_)
  ·
   (try dsimp only); exact ⟨RC.o 3 _ rfl _ hz, RY.o 0 _ rfl _ hx, RX.o 0 _ rfl _ hx, RX.o 1 _ rfl _ hx, RX.o 2 _ rfl _ hx, RX.o 3 _ rfl _ hx, RC.o 4 _ rfl _ hz, RY.o 1 _ rfl _ hx⟩
  replace hHeld := hHeld (by decide)
  clear hK K
  try refine lyf ?_
  refine fp 20 ?_
  refine fp 21 ?_
  refine fp 22 ?_
  refine fp 23 ?_
  refine n6q (by kernel_rfl) ?_ _
  go_wp2_with fail
  go_ret2
  rw [HVL.o]
  exact ⟨by rw [HQ0.o]; first | done | rfl, hv⟩
 have t4 : (cvar == -1) = false := by simpa using hvar
 have HVN : Hi (cq.var ≠ -1) := hdd (by rw [← HNM.o.1]; exact hvar)
 clear hvar
 have HTLEN : Hi (m = l.length ∧ l.length ≤ 6) := hdd ⟨HM.o, HT.o.len⟩
 have KW : Hi (∀ w', Below w5.heap.size w5 w' → Calls Tryz.prog 33 #[.slice va m vc, .int .i64 cvar] w' fun e w'' => e = .returned (.bool (l.contains cvar)) ∧ Below w'.heap.size w' w'') := hdd (fun w' hb => by
  have h9 := q8h (w := w') (a := va) (m := m) (c := vc) (l := l) (v := cvar) ((HL0.o.below HB05.o).below hb) (by have := HTLEN.o; omega) (by have := HTLEN.o; omega)
  rw [List.take_of_length_le (by have := HTLEN.o; omega)] at h9
  exact h9)
 have KV : Hi (∀ w', Below w5.heap.size w5 w' → Calls Tryz.prog 33 #[.slice vva vs.length vvc, .int .i64 cvar] w' fun e w'' => e = .returned (.bool (vs.contains cvar)) ∧ Below w'.heap.size w' w'') := hdd (fun w' hb => by
  have h9 := q8h (w := w') (a := vva) (m := vs.length) (c := vvc) (l := vs) (v := cvar) ((HV.o.below HBW5.o).below hb) qm (by have := HL6.o; omega)
  rw [List.take_length] at h9
  exact h9)
 obtain ⟨wb, hwb⟩ := qx (l.contains cvar)
 obtain ⟨vb, hvb⟩ := qx (vs.contains cvar)
 rw [← hwb] at KW
 rw [← hvb] at KV
 have HWB := hdd hwb
 have HVB := hdd hvb
 clear hwb hvb
 go_enter Tryz.func50, Tryz.ntmps50
 go_wp2_with fail
 rw [HW1.o, HW5.o]
 refine (KW.o _ qb).mono ?_
 rintro en6 w6 ⟨rfl, hb6⟩
 have HB6 := hdd hb6
 clear hb6 f0 f1 f2 f3 f4 f5 f6 t0 t1 t4 y3 KW
 cases wb with
 | false =>
  go_wp2_with fail
  go_ret2
  rw [m1q HM0.o HCQ.o HVN.o (by rw [y3k (by rw [← HNM.o.1]; exact HWB.o.symm)]; rfl)]
  exact ⟨rfl, q0q HBW5.o HB6.o⟩
 | true =>
 have y0 := RC.o 0 _ rfl _ HB6.o
 go_wp2_with fail
 refine (KV.o _ HB6.o).mono ?_
 rintro en7 w7 ⟨rfl, hb7⟩
 have HB57 : Hi (Below w5.heap.size w5 w7) := hdd (q0q HB6.o hb7)
 have HBW7 : Hi (Below w.heap.size w w7) := hdd (q0q HBW5.o HB57.o)
 clear hb7 y0 KV
 cases vb with
 | true =>
  go_wp2_with fail
  go_ret2
  rw [m1q HM0.o HCQ.o HVN.o (by rw [y3w (by rw [← HNM.o.1]; exact HVB.o.symm)]; rfl)]
  exact ⟨rfl, HBW7.o⟩
 | false =>
 have HASK : Hi (t2q l vs cq.var = true) := hdd (by rw [← HNM.o.1]; exact y3h HWB.o.symm HVB.o.symm)
 have y1 := RC.o 1 _ rfl _ HB57.o
 have y2 := RC.o 2 _ rfl _ HB57.o
 have z3 := RY.o 3 _ rfl _ (q0q HB5.o HB57.o)
 by_cases h1 : czero ≤ (i : Int)
 ·
  have u1 : decide (czero ≤ (i : Int)) = true := by simpa using h1
  have HNO : Hi (g3q cn i czero = false) := hdd (by unfold g3q; rw [decide_eq_false_iff_not]; omega)
  clear h1
  go_wp2_with fail
  go_ret2
  rw [m1q HM0.o HCQ.o HVN.o (by rw [← HNM.o.2.1, ← HCN.o.1, HNO.o]; simp)]
  exact ⟨rfl, HBW7.o⟩
 have u1 : decide (czero ≤ (i : Int)) = false := by simpa using h1
 have HN1 : Hi ((i : Int) < czero) := hdd (by omega)
 by_cases h2 : cone ≤ (i : Int)
 ·
  have u2 : decide (cone ≤ (i : Int)) = true := by simpa using h2
  have HNO : Hi (g3q cn i cone = false) := hdd (by unfold g3q; rw [decide_eq_false_iff_not]; omega)
  clear h1 h2
  go_wp2_with fail
  go_ret2
  rw [m1q HM0.o HCQ.o HVN.o (by rw [← HNM.o.2.2.1, ← HCN.o.1, HNO.o]; simp)]
  exact ⟨rfl, HBW7.o⟩
 have u2 : decide (cone ≤ (i : Int)) = false := by simpa using h2
 have HN2 : Hi ((i : Int) < cone) := hdd (by omega)
 by_cases h3 : (cn : Int) ≤ czero
 ·
  have u3 : decide (czero ≥ (cn : Int)) = true := by simpa using h3
  have u4 : decide ((cn : Int) ≤ czero) = true := by simpa using h3
  have HNO : Hi (g3q cn i czero = false) := hdd (by unfold g3q; rw [decide_eq_false_iff_not]; omega)
  clear h1 h2 h3
  go_wp2_with fail
  go_ret2
  rw [m1q HM0.o HCQ.o HVN.o (by rw [← HNM.o.2.1, ← HCN.o.1, HNO.o]; simp)]
  exact ⟨rfl, HBW7.o⟩
 have u3 : decide (czero ≥ (cn : Int)) = false := by simpa using h3
 have u4 : decide ((cn : Int) ≤ czero) = false := by simpa using h3
 have HN3 : Hi (czero < (cn : Int)) := hdd (by omega)
 by_cases h4 : (cn : Int) ≤ cone
 ·
  have u5 : decide (cone ≥ (cn : Int)) = true := by simpa using h4
  have u6 : decide ((cn : Int) ≤ cone) = true := by simpa using h4
  have HNO : Hi (g3q cn i cone = false) := hdd (by unfold g3q; rw [decide_eq_false_iff_not]; omega)
  clear h1 h2 h3 h4
  go_wp2_with fail
  go_ret2
  rw [m1q HM0.o HCQ.o HVN.o (by rw [← HNM.o.2.2.1, ← HCN.o.1, HNO.o]; simp)]
  exact ⟨rfl, HBW7.o⟩
 have u5 : decide (cone ≥ (cn : Int)) = false := by simpa using h4
 have u6 : decide ((cn : Int) ≤ cone) = false := by simpa using h4
 have HN4 : Hi (cone < (cn : Int)) := hdd (by omega)
 clear h1 h2 h3 h4
 have HNX : Hi (g3q cn i czero = true ∧ g3q cn i cone = true) := hdd (by unfold g3q; rw [decide_eq_true_eq, decide_eq_true_eq]; exact ⟨⟨HN1.o, HN3.o⟩, HN2.o, HN4.o⟩)
 have HOKB : Hi ((t2q l vs cq.var && g3q Cs.length i cq.zero && g3q Cs.length i cq.one) = true) := hdd (by rw [HASK.o, ← HNM.o.2.1, ← HNM.o.2.2.1, ← HCN.o.1, HNX.o.1, HNX.o.2]; rfl)
 have HWP : Hi (∀ b : Int, b = 0 ∨ b = 1 → Way P l (vs ++ [cvar]) (bs ++ [b])) := hdd (fun b hb => HWAY.o.push HT.o.ok (by rw [HNM.o.1]; exact HASK.o) hb)
 have HH7 := hdd ((HB57.o.block _ (lt_of_block HH5.o)).trans HH5.o)
 have RC7 := hdd (q1q HH7.o)
 have HVS7 : Hi (∀ w', Below w7.heap.size w7 w' → v8q w' vva vs) := hdd (fun w' hb => (HV.o.below HBW7.o).below hb)
 go_wp2_with fail
 clear y1 y2 z3 u1 u2 u3 u4 u5 u6
 go_cut [4] (fun sv wc => ∃ (na : Option Addr) (nc : Nat), sv = .slice na (vs.length + 1) nc ∧ Hi (vs.length + 1 ≤ nc) ∧ Hi (v8q wc na (vs ++ [cvar])) ∧ Hi (Below w7.heap.size w7 wc))
 case first =>
  have hz : Below w7.heap.size w7 w7.drew := Below.drew qb
  have hsz : w7.heap.size ≤ w7.drew.heap.size := hz.size
  refine k4q [] (fun w' => w'.cell? ⟨w.heap.size + 1 + 1, 0, none⟩ = some (.int .i64 cvar)) (by kernel_rfl) (by (try dsimp only); exact RC7.o 0 _ rfl _ hz) (fun hHeld => ?_)
  obtain ⟨wq, hwq⟩ := qx (w7.drew)
  rw [← hwq] at hz hsz hHeld ⊢
  clear hwq
  refine fp 1 ?_
  refine fp 3 ?_
  refine ft 4 ?_
  refine z8q (rs := [0, 5]) (by kernel_rfl) (by simp) ?_
  refine j1q.cons (o := _) rfl (fun K hK => ?_) ?_
  go_simp
  obtain ⟨wq2, hwq2⟩ := qx (wq.alloc (Obj.cells #[] 3))
  have hg0 : wq2.heap[wq.heap.size]? = some (.cells #[] 3 (0, 0)) := by rw [hwq2]; exact heap_alloc_new _ _
  have hbA : Below wq.heap.size wq wq2 := by rw [hwq2]; exact (qb).alloc qm _
  obtain ⟨g0, hgeg0⟩ := qx (wq.heap.size)
  rw [← hgeg0] at hg0 ⊢
  rw [← hwq2]
  clear hwq2
  have hlg0 : wq.heap.size ≤ g0 := Nat.le_of_eq hgeg0.symm
  clear hgeg0
  have hlv : LIo wq2 w7.heap.size (.slice (some ⟨g0, 0, none⟩) 0 0) [] := LIo.empty hg0 (Nat.le_trans hsz hlg0)
  have hz := hz.trans (hbA.mono hsz)
  have hsz := Nat.le_trans hsz hbA.size
  clear hbA
  obtain ⟨wq, rfl⟩ : ∃ x : World, x = wq2 := ⟨_, rfl⟩
  refine hK.out _ _ (fun _ => ?_) (fun hHeld => ?_)
  ·
   (try dsimp only); exact RC7.o 0 _ rfl _ hz
  replace hHeld := hHeld (by decide)
  clear hK K
  try refine lyf ?_
  refine z8q (rs := [2, 5]) (by kernel_rfl) (by simp) ?_
  refine j1q.cons (o := _) rfl (fun K hK => ?_) ?_
  rw [if_pos (by kernel_rfl)]
  refine h4q _ _ rfl w7.heap.size (Value.slice (some ⟨g0, 0, none⟩) 0 0) [] rfl hlv vva vs.length vvc vs rfl (HVS7.o wq hz) rfl (by simp only [List.length_nil]; have := HL6.o; omega) hsz ?_
  intro v5 wr hl5 hgr5 hbb5 hat5
  rw [List.nil_append] at hl5
  have hz := hbb5 _ hz
  have hlv := hl5
  have hsz := Nat.le_trans hsz hgr5.size
  clear hl5 hgr5 hbb5 hat5 hg0
  obtain ⟨wq, rfl⟩ : ∃ x : World, x = wr := ⟨_, rfl⟩
  refine hK.out _ _ (fun _ => ?_) (fun hHeld => ?_)
  ·
   (try dsimp only); exact RC7.o 0 _ rfl _ hz
  replace hHeld := hHeld (by decide)
  clear hK K
  try refine lyf ?_
  refine z8q (rs := [5]) (by kernel_rfl) (by simp) ?_
  refine j1q.cons (o := _) rfl (fun K hK => ?_) j1q.nil
  go_simp
  obtain ⟨wq2, hwq2⟩ := qx (wq.alloc (Obj.cells #[.int .i64 cvar] 3))
  have hg1 : wq2.heap[wq.heap.size]? = some (.cells #[.int .i64 cvar] 3 (0, 0)) := by rw [hwq2]; exact heap_alloc_new _ _
  have hbA : Below wq.heap.size wq wq2 := by rw [hwq2]; exact (qb).alloc qm _
  obtain ⟨g1, hgeg1⟩ := qx (wq.heap.size)
  rw [← hgeg1] at hg1 ⊢
  rw [← hwq2]
  clear hwq2
  have hlg1 : wq.heap.size ≤ g1 := Nat.le_of_eq hgeg1.symm
  clear hgeg1
  have hlv := hlv.below hbA
  have hz := hz.trans (hbA.mono hsz)
  have hsz := Nat.le_trans hsz hbA.size
  clear hbA
  obtain ⟨wq, rfl⟩ : ∃ x : World, x = wq2 := ⟨_, rfl⟩
  refine hK.out _ _ (fun _ => ?_) (fun hHeld => ?_)
  ·
   (try dsimp only); exact RC7.o 0 _ rfl _ hz
  replace hHeld := hHeld (by decide)
  clear hK K
  try refine lyf ?_
  rotate_left
  refine j1q.cons (o := _) rfl (fun K hK => ?_) j1q.nil
  go_simp
  obtain ⟨wq2, hwq2⟩ := qx (wq.alloc (Obj.cells #[.int .i64 cvar] 3))
  have hg1 : wq2.heap[wq.heap.size]? = some (.cells #[.int .i64 cvar] 3 (0, 0)) := by rw [hwq2]; exact heap_alloc_new _ _
  have hbA : Below wq.heap.size wq wq2 := by rw [hwq2]; exact (qb).alloc qm _
  obtain ⟨g1, hgeg1⟩ := qx (wq.heap.size)
  rw [← hgeg1] at hg1 ⊢
  rw [← hwq2]
  clear hwq2
  have hlg1 : wq.heap.size ≤ g1 := Nat.le_of_eq hgeg1.symm
  clear hgeg1
  have hne9 : g0 ≠ g1 := by have := lt_of_block hg0; omega
  have hg0 := (hbA.block _ (lt_of_block hg0)).trans hg0
  have hlv := hlv.below hbA
  have hz := hz.trans (hbA.mono hsz)
  have hsz := Nat.le_trans hsz hbA.size
  clear hbA
  obtain ⟨wq, rfl⟩ : ∃ x : World, x = wq2 := ⟨_, rfl⟩
  refine hK.out _ _ (fun _ => ?_) (fun hHeld => ?_)
  ·
   (try dsimp only); exact RC7.o 0 _ rfl _ hz
  replace hHeld := hHeld (by decide)
  clear hK K
  try refine lyf ?_
  refine z8q (rs := [2]) (by kernel_rfl) (by simp) ?_
  refine j1q.cons (o := _) rfl (fun K hK => ?_) j1q.nil
  rw [if_pos (by kernel_rfl)]
  refine h4q _ _ rfl w7.heap.size (Value.slice (some ⟨g0, 0, none⟩) 0 0) [] rfl hlv vva vs.length vvc vs rfl (HVS7.o wq hz) rfl (by simp only [List.length_nil]; have := HL6.o; omega) hsz ?_
  intro v5 wr hl5 hgr5 hbb5 hat5
  rw [List.nil_append] at hl5
  have hg1 := (hgr5.block _ (lt_of_block hg1) (fun e => by have e9 : some g0 = some g1 := e.symm; have e8 := Option.some.inj e9; omega)).trans hg1
  have hz := hbb5 _ hz
  have hlv := hl5
  have hsz := Nat.le_trans hsz hgr5.size
  clear hl5 hgr5 hbb5 hat5 hg0
  obtain ⟨wq, rfl⟩ : ∃ x : World, x = wr := ⟨_, rfl⟩
  refine hK.out _ _ (fun _ => ?_) (fun hHeld => ?_)
  ·
   (try dsimp only); exact RC7.o 0 _ rfl _ hz
  replace hHeld := hHeld (by decide)
  clear hK K
  try refine lyf ?_
  rotate_left
  refine j1q.cons (o := _) rfl (fun K hK => ?_) j1q.nil
  go_simp
  obtain ⟨wq2, hwq2⟩ := qx (wq.alloc (Obj.cells #[.int .i64 cvar] 3))
  have hg1 : wq2.heap[wq.heap.size]? = some (.cells #[.int .i64 cvar] 3 (0, 0)) := by rw [hwq2]; exact heap_alloc_new _ _
  have hbA : Below wq.heap.size wq wq2 := by rw [hwq2]; exact (qb).alloc qm _
  obtain ⟨g1, hgeg1⟩ := qx (wq.heap.size)
  rw [← hgeg1] at hg1 ⊢
  rw [← hwq2]
  clear hwq2
  have hlg1 : wq.heap.size ≤ g1 := Nat.le_of_eq hgeg1.symm
  clear hgeg1
  have hz := hz.trans (hbA.mono hsz)
  have hsz := Nat.le_trans hsz hbA.size
  clear hbA
  obtain ⟨wq, rfl⟩ : ∃ x : World, x = wq2 := ⟨_, rfl⟩
  refine hK.out _ _ (fun _ => ?_) (fun hHeld => ?_)
  ·
   (try dsimp only); exact RC7.o 0 _ rfl _ hz
  replace hHeld := hHeld (by decide)
  clear hK K
  try refine lyf ?_
  refine z8q (rs := [0]) (by kernel_rfl) (by simp) ?_
  refine j1q.cons (o := _) rfl (fun K hK => ?_) j1q.nil
  go_simp
  obtain ⟨wq2, hwq2⟩ := qx (wq.alloc (Obj.cells #[] 3))
  have hg0 : wq2.heap[wq.heap.size]? = some (.cells #[] 3 (0, 0)) := by rw [hwq2]; exact heap_alloc_new _ _
  have hbA : Below wq.heap.size wq wq2 := by rw [hwq2]; exact (qb).alloc qm _
  obtain ⟨g0, hgeg0⟩ := qx (wq.heap.size)
  rw [← hgeg0] at hg0 ⊢
  rw [← hwq2]
  clear hwq2
  have hlg0 : wq.heap.size ≤ g0 := Nat.le_of_eq hgeg0.symm
  clear hgeg0
  have hne9 : g1 ≠ g0 := by have := lt_of_block hg1; omega
  have hg1 := (hbA.block _ (lt_of_block hg1)).trans hg1
  have hlv : LIo wq2 w7.heap.size (.slice (some ⟨g0, 0, none⟩) 0 0) [] := LIo.empty hg0 (Nat.le_trans hsz hlg0)
  have hz := hz.trans (hbA.mono hsz)
  have hsz := Nat.le_trans hsz hbA.size
  clear hbA
  obtain ⟨wq, rfl⟩ : ∃ x : World, x = wq2 := ⟨_, rfl⟩
  refine hK.out _ _ (fun _ => ?_) (fun hHeld => ?_)
  ·
   (try dsimp only); exact RC7.o 0 _ rfl _ hz
  replace hHeld := hHeld (by decide)
  clear hK K
  try refine lyf ?_
  refine z8q (rs := [2]) (by kernel_rfl) (by simp) ?_
  refine j1q.cons (o := _) rfl (fun K hK => ?_) j1q.nil
  rw [if_pos (by kernel_rfl)]
  refine h4q _ _ rfl w7.heap.size (Value.slice (some ⟨g0, 0, none⟩) 0 0) [] rfl hlv vva vs.length vvc vs rfl (HVS7.o wq hz) rfl (by simp only [List.length_nil]; have := HL6.o; omega) hsz ?_
  intro v5 wr hl5 hgr5 hbb5 hat5
  rw [List.nil_append] at hl5
  have hg1 := (hgr5.block _ (lt_of_block hg1) (fun e => by have e9 : some g0 = some g1 := e.symm; have e8 := Option.some.inj e9; omega)).trans hg1
  have hz := hbb5 _ hz
  have hlv := hl5
  have hsz := Nat.le_trans hsz hgr5.size
  clear hl5 hgr5 hbb5 hat5 hg0
  obtain ⟨wq, rfl⟩ : ∃ x : World, x = wr := ⟨_, rfl⟩
  refine hK.out _ _ (fun _ => ?_) (fun hHeld => ?_)
  ·
   (try dsimp only); exact RC7.o 0 _ rfl _ hz
  replace hHeld := hHeld (by decide)
  clear hK K
  try refine lyf ?_
  rotate_left
  all_goals
   refine z8q (rs := [6]) (by kernel_rfl) (by simp) ?_
   refine j1q.cons (o := _) rfl (fun K hK => ?_) j1q.nil
   rw [if_pos (by kernel_rfl)]
   refine m6q _ _ rfl w7.heap.size v5 vs rfl hlv g1 1 cvar rfl hg1 (by have := HL6.o; omega) hsz ?_
   intro v6 wr hl6 hgr6 hbb6 hat6
   have hz := hbb6 _ hz
   have hlv := hl6
   have hsz := Nat.le_trans hsz hgr6.size
   clear hl6 hgr6 hbb6 hat6 hg1
   obtain ⟨wq, rfl⟩ : ∃ x : World, x = wr := ⟨_, rfl⟩
   refine hK.out _ _ (fun _ => ?_) (fun hHeld => ?_)
   ·
    (try dsimp only); exact RC7.o 0 _ rfl _ hz
   replace hHeld := hHeld (by decide)
   clear hK K
   try refine lyf ?_
   obtain ⟨na, nc, rfl⟩ := hlv.form
   have hcap := j0w hlv
   have e1 : (vs ++ [cvar]).length = vs.length + 1 := by rw [List.length_append, List.length_singleton]
   simp only [e1] at hlv hcap ⊢
   refine fp 7 ?_
   refine n6q (by kernel_rfl) ?_ _
   go_wp2_with fail
   go_meet
   exact ⟨na, nc, rfl, hdd hcap, hdd (hlv.ints (z6w (HWP.o 0 (.inl rfl)).ok HT.o.vars)), hdd hz⟩
 case rest =>
  obtain ⟨w9, rfl⟩ : ∃ w8 : World, w8 = wc := ⟨_, rfl⟩
  obtain ⟨va4, vc4, rfl, HC4, HV4, HZ9⟩ := hcut
  have HBW9 : Hi (Below w.heap.size w w9) := hdd (q0q HBW7.o HZ9.o)
  have y1 := RC7.o 1 _ rfl _ HZ9.o
  have y2 := RC7.o 2 _ rfl _ HZ9.o
  go_wp2_with fail
  obtain ⟨w10, hw10⟩ := qx (w9.alloc (Obj.cells #[.int .i64 czero, .int .i64 cone] 3))
  have HB10 : Hi (Below w9.heap.size w9 w10) := hdd (by rw [hw10]; exact (qb).alloc qm _)
  have HK10 : Hi (w10.heap[w9.heap.size]? = some (.cells #[.int .i64 czero, .int .i64 cone] 3 (0, 0))) := hdd (by rw [hw10]; exact heap_alloc_new _ _)
  have RK := hdd (q1q HK10.o)
  have HBW10 : Hi (Below w.heap.size w w10) := hdd (q0q HBW9.o HB10.o)
  have HB110 : Hi (Below w1.heap.size w1 w10) := hdd (q0q HB5.o (q0q HB57.o (q0q HZ9.o HB10.o)))
  have HV10 : Hi (∀ w', Below w10.heap.size w10 w' → v8q w' va4 (vs ++ [cvar])) := hdd (fun w' hb => (HV4.o.below HB10.o).below hb)
  have HBS10 : Hi (∀ w', Below w10.heap.size w10 w' → v8q w' bva bs) := hdd (fun w' hb => (HBS.o.below HBW10.o).below hb)
  rw [← hw10]
  clear hw10 y1 y2
  obtain ⟨r0, hr0⟩ := qx (u6q P l (t9q P k tx) Cs f czero.toNat (m9 - 1) (vs ++ [cvar]) (bs ++ [0]))
  have HLE0 : Hi (r0.1 ≤ m9 - 1) := hdd (by rw [hr0]; exact z3y ..)
  obtain ⟨v0, b0⟩ := r0
  obtain ⟨r1, hr1⟩ := qx (u6q P l (t9q P k tx) Cs f cone.toNat (m9 - 1 - v0) (vs ++ [cvar]) (bs ++ [1]))
  have HLE1 : Hi (r1.1 ≤ m9 - 1 - v0) := hdd (by rw [hr1]; exact z3y ..)
  obtain ⟨v1, b1⟩ := r1
  have HLE : Hi (v0 ≤ 800 ∧ v1 ≤ 800 ∧ v0 ≤ m9 - 1 ∧ 1 ≤ m9 ∧ m9 ≤ 800) := hdd (by have h1 : v0 ≤ m9 - 1 := HLE0.o; have h2 : v1 ≤ m9 - 1 - v0 := HLE1.o; have h3 := HI.o; have h4 := HM0.o; omega)
  obtain ⟨V0, hV0⟩ : ∃ x : Int, x = (v0 : Int) := ⟨_, rfl⟩
  obtain ⟨V1, hV1⟩ : ∃ x : Int, x = (v1 : Int) := ⟨_, rfl⟩
  obtain ⟨C1, hC1⟩ : ∃ x : Int, x = 1 + V0 := ⟨_, rfl⟩
  obtain ⟨C2, hC2⟩ : ∃ x : Int, x = C1 + V1 := ⟨_, rfl⟩
  obtain ⟨A0, hA0⟩ : ∃ x : Int, x = M9 - 1 := ⟨_, rfl⟩
  obtain ⟨A1, hA1⟩ : ∃ x : Int, x = M9 - C1 := ⟨_, rfl⟩
  have HNUM : Hi (V0 = (v0 : Int) ∧ V1 = (v1 : Int) ∧ C1 = 1 + V0 ∧ C2 = C1 + V1 ∧ A0 = M9 - 1 ∧ A1 = M9 - C1 ∧ M9 = (m9 : Int)) := hdd ⟨hV0, hV1, hC1, hC2, hA0, hA1, HM9.o⟩
  have n1 : IntKind.i64.wrap (1 + V0) = C1 := by rw [IntWalk.i64_in _ (by have := HLE.o; omega)]; omega
  have n2 : IntKind.i64.wrap (C1 + V1) = C2 := by rw [IntWalk.i64_in _ (by have := HLE.o; omega)]; omega
  have n3 : IntKind.i64.wrap (M9 - 1) = A0 := by rw [IntWalk.i64_in _ (by have := HLE.o; have := HM9.o; omega)]; omega
  have n4 : IntKind.i64.wrap (M9 - C1) = A1 := by rw [IntWalk.i64_in _ (by have := HLE.o; have := HM9.o; omega)]; omega
  have KR0 : Hi (∀ w' nb nd, Below w10.heap.size w10 w' → v8q w' nb (bs ++ [0]) → Calls Tryz.prog 50 #[.agg #[.int .i64 (n : Nat), .slice fa fn fc, .slice ga gn gc, .slice ra rn rc], .slice va m vc, .agg #[.int .i64 k, .slice xa xn xc, .slice za zn zc, .slice (some ⟨CB, coff, none⟩) cn cc], .int .i64 czero, .slice va4 (vs.length + 1) vc4, .slice nb (bs.length + 1) nd, .int .i64 A0] w' fun e w'' => e = .returned (.tuple #[.int .i64 V0, .bool b0]) ∧ Below w'.heap.size w' w'') := hdd (fun w' nb nd hb hI => by
   have h9 := IH.o czero.toNat (m9 - 1) (vs ++ [cvar]) (bs ++ [0]) w' va4 vc4 nb nd (HB01.o.trans ((HB110.o.trans (hb.mono HB110.o.size)).mono HB01.o.size)) (HV10.o w' hb) hI (by rw [List.length_append, List.length_singleton]; exact HC4.o) (by have := HN1.o; have := HN3.o; omega) (by have := HN1.o; have := HN3.o; have := HI.o; omega) (by have := HLE.o; omega) (HWP.o 0 (.inl rfl))
   rw [show ((czero.toNat : Nat) : Int) = czero from Int.toNat_of_nonneg (by have := HN1.o; omega), ← hr0, List.length_append, List.length_append, List.length_singleton, List.length_singleton, show ((m9 - 1 : Nat) : Int) = A0 by have := HNUM.o; have := HLE.o; omega] at h9
   rw [HNUM.o.1]
   exact h9)
  have KR1 : Hi (∀ w' nb nd, Below w10.heap.size w10 w' → v8q w' nb (bs ++ [1]) → Calls Tryz.prog 50 #[.agg #[.int .i64 (n : Nat), .slice fa fn fc, .slice ga gn gc, .slice ra rn rc], .slice va m vc, .agg #[.int .i64 k, .slice xa xn xc, .slice za zn zc, .slice (some ⟨CB, coff, none⟩) cn cc], .int .i64 cone, .slice va4 (vs.length + 1) vc4, .slice nb (bs.length + 1) nd, .int .i64 A1] w' fun e w'' => e = .returned (.tuple #[.int .i64 V1, .bool b1]) ∧ Below w'.heap.size w' w'') := hdd (fun w' nb nd hb hI => by
   have h9 := IH.o cone.toNat (m9 - 1 - v0) (vs ++ [cvar]) (bs ++ [1]) w' va4 vc4 nb nd (HB01.o.trans ((HB110.o.trans (hb.mono HB110.o.size)).mono HB01.o.size)) (HV10.o w' hb) hI (by rw [List.length_append, List.length_singleton]; exact HC4.o) (by have := HN2.o; have := HN4.o; omega) (by have := HN2.o; have := HN4.o; have := HI.o; omega) (by have := HLE.o; omega) (HWP.o 1 (.inr rfl))
   rw [show ((cone.toNat : Nat) : Int) = cone from Int.toNat_of_nonneg (by have := HN2.o; omega), ← hr1, List.length_append, List.length_append, List.length_singleton, List.length_singleton, show ((m9 - 1 - v0 : Nat) : Int) = A1 by have := HNUM.o; have := HLE.o; omega] at h9
   rw [HNUM.o.2.1]
   exact h9)
  have HR0 : Hi (u6q P l (t9q P k tx) Cs f cq.zero.toNat (m9 - 1) (vs ++ [cq.var]) (bs ++ [0]) = (v0, b0)) := hdd (by rw [← HNM.o.1, ← HNM.o.2.1]; exact hr0.symm)
  have HR1 : Hi (u6q P l (t9q P k tx) Cs f cq.one.toNat (m9 - 1 - v0) (vs ++ [cq.var]) (bs ++ [1]) = (v1, b1)) := hdd (by rw [← HNM.o.1, ← HNM.o.2.2.1]; exact hr1.symm)
  clear hr0 hr1 hV0 hV1 hC1 hC2 hA0 hA1
  go_loopw [14, 128] (fun vv iv wr => ((iv = .int .i64 0 ∧ vv = .int .i64 1) ∨ (iv = .int .i64 1 ∧ vv = .int .i64 C1 ∧ b0 = true) ∨ (iv = .int .i64 2 ∧ vv = .int .i64 C2 ∧ b0 = true ∧ b1 = true)) ∧ Hi (Below w10.heap.size w10 wr)) (fun _ iv _ => 2 - (intOf iv).toNat)
  case atStart => exact ⟨.inl ⟨rfl, rfl⟩, hdd qb⟩
  case round =>
   obtain ⟨hcase, hZ⟩ := hrel
   obtain ⟨wo, rfl⟩ : ∃ wo : World, wo = wr := ⟨_, rfl⟩
   have HXo := hdd (((q0q HB110.o hZ.o).block _ (lt_of_block HX1.o)).trans HX1.o)
   have HYo := hdd (((q0q HB110.o hZ.o).block _ (lt_of_block HY1.o)).trans HY1.o)
   have RXo := hdd (q1q HXo.o)
   have RYo := hdd (q1q HYo.o)
   have k0 := RK.o 0 _ rfl _ hZ.o
   have k1 := RK.o 1 _ rfl _ hZ.o
   rcases hcase with ⟨rfl, rfl⟩ | ⟨rfl, rfl, hb0⟩ | ⟨rfl, rfl, hb0, hb1⟩
   ·
    go_wp2_with fail
    clear k0 k1
    go_cut [21, 22] (fun nv fv wc => nv = .int .i64 V0 ∧ fv = .bool b0 ∧ Hi (Below wo.heap.size wo wc))
    case first =>
     have hz : Below wo.heap.size wo wo.drew := Below.drew qb
     have hsz : wo.heap.size ≤ wo.drew.heap.size := hz.size
     refine k4q [] (fun w' => w'.cell? ⟨w.heap.size, 0, none⟩ = some (.int .i64 (n : Nat)) ∧ w'.cell? ⟨w.heap.size, 1, none⟩ = some (.slice fa fn fc) ∧ w'.cell? ⟨w.heap.size, 2, none⟩ = some (.slice ga gn gc) ∧ w'.cell? ⟨w.heap.size, 3, none⟩ = some (.slice ra rn rc) ∧ w'.cell? ⟨w.heap.size + 1, 0, none⟩ = some (.int .i64 k) ∧ w'.cell? ⟨w.heap.size + 1, 1, none⟩ = some (.slice xa xn xc) ∧ w'.cell? ⟨w.heap.size + 1, 2, none⟩ = some (.slice za zn zc) ∧ w'.cell? ⟨w.heap.size + 1, 3, none⟩ = some (.slice (some ⟨CB, coff, none⟩) cn cc)) (by kernel_rfl) (by (try dsimp only); exact ⟨RXo.o 0 _ rfl _ hz, RXo.o 1 _ rfl _ hz, RXo.o 2 _ rfl _ hz, RXo.o 3 _ rfl _ hz, RYo.o 0 _ rfl _ hz, RYo.o 1 _ rfl _ hz, RYo.o 2 _ rfl _ hz, RYo.o 3 _ rfl _ hz⟩) (fun hHeld => ?_)
     obtain ⟨wq, hwq⟩ := qx (wo.drew)
     rw [← hwq] at hz hsz hHeld ⊢
     clear hwq
     refine fp 1 ?_
     refine fp 3 ?_
     refine fp 4 ?_
     refine fp 6 ?_
     refine fp 8 ?_
     refine fp 11 ?_
     refine fp 12 ?_
     refine fp 13 ?_
     refine ft 0 ?_
     refine ft 2 ?_
     refine z8q (rs := [5, 9]) (by kernel_rfl) (by simp) ?_
     refine j1q.cons (o := _) rfl (fun K hK => ?_) ?_
     go_simp
     obtain ⟨wq2, hwq2⟩ := qx (wq.alloc (Obj.cells #[] 3))
     have hg0 : wq2.heap[wq.heap.size]? = some (.cells #[] 3 (0, 0)) := by rw [hwq2]; exact heap_alloc_new _ _
     have hbA : Below wq.heap.size wq wq2 := by rw [hwq2]; exact (qb).alloc qm _
     obtain ⟨g0, hgeg0⟩ := qx (wq.heap.size)
     rw [← hgeg0] at hg0 ⊢
     rw [← hwq2]
     clear hwq2
     have hlg0 : wq.heap.size ≤ g0 := Nat.le_of_eq hgeg0.symm
     clear hgeg0
     have hlv : LIo wq2 wo.heap.size (.slice (some ⟨g0, 0, none⟩) 0 0) [] := LIo.empty hg0 (Nat.le_trans hsz hlg0)
     have hz := hz.trans (hbA.mono hsz)
     have hsz := Nat.le_trans hsz hbA.size
     clear hbA
     obtain ⟨wq, rfl⟩ : ∃ x : World, x = wq2 := ⟨_, rfl⟩
     refine hK.out _ _ (fun _ => ?_) (fun hHeld => ?_)
     ·
      (try dsimp only); exact ⟨RXo.o 0 _ rfl _ hz, RXo.o 1 _ rfl _ hz, RXo.o 2 _ rfl _ hz, RXo.o 3 _ rfl _ hz, RYo.o 0 _ rfl _ hz, RYo.o 1 _ rfl _ hz, RYo.o 2 _ rfl _ hz, RYo.o 3 _ rfl _ hz⟩
     replace hHeld := hHeld (by decide)
     clear hK K
     try refine lyf ?_
     refine z8q (rs := [7, 9]) (by kernel_rfl) (by simp) ?_
     refine j1q.cons (o := _) rfl (fun K hK => ?_) ?_
     rw [if_pos (by kernel_rfl)]
     refine h4q _ _ rfl wo.heap.size (Value.slice (some ⟨g0, 0, none⟩) 0 0) [] rfl hlv bva bs.length bvc bs rfl ((fun w' hb => HBS10.o w' (q0q hZ.o hb)) wq hz) rfl (by simp only [List.length_nil]; have := HL6.o; omega) hsz ?_
     intro v5 wr hl5 hgr5 hbb5 hat5
     rw [List.nil_append] at hl5
     have hz := hbb5 _ hz
     have hlv := hl5
     have hsz := Nat.le_trans hsz hgr5.size
     clear hl5 hgr5 hbb5 hat5 hg0
     obtain ⟨wq, rfl⟩ : ∃ x : World, x = wr := ⟨_, rfl⟩
     refine hK.out _ _ (fun _ => ?_) (fun hHeld => ?_)
     ·
      (try dsimp only); exact ⟨RXo.o 0 _ rfl _ hz, RXo.o 1 _ rfl _ hz, RXo.o 2 _ rfl _ hz, RXo.o 3 _ rfl _ hz, RYo.o 0 _ rfl _ hz, RYo.o 1 _ rfl _ hz, RYo.o 2 _ rfl _ hz, RYo.o 3 _ rfl _ hz⟩
     replace hHeld := hHeld (by decide)
     clear hK K
     try refine lyf ?_
     refine z8q (rs := [9]) (by kernel_rfl) (by simp) ?_
     refine j1q.cons (o := _) rfl (fun K hK => ?_) j1q.nil
     go_simp
     obtain ⟨wq2, hwq2⟩ := qx (wq.alloc (Obj.cells #[.int .i64 0] 3))
     have hg1 : wq2.heap[wq.heap.size]? = some (.cells #[.int .i64 0] 3 (0, 0)) := by rw [hwq2]; exact heap_alloc_new _ _
     have hbA : Below wq.heap.size wq wq2 := by rw [hwq2]; exact (qb).alloc qm _
     obtain ⟨g1, hgeg1⟩ := qx (wq.heap.size)
     rw [← hgeg1] at hg1 ⊢
     rw [← hwq2]
     clear hwq2
     have hlg1 : wq.heap.size ≤ g1 := Nat.le_of_eq hgeg1.symm
     clear hgeg1
     have hlv := hlv.below hbA
     have hz := hz.trans (hbA.mono hsz)
     have hsz := Nat.le_trans hsz hbA.size
     clear hbA
     obtain ⟨wq, rfl⟩ : ∃ x : World, x = wq2 := ⟨_, rfl⟩
     refine hK.out _ _ (fun _ => ?_) (fun hHeld => ?_)
     ·
      (try dsimp only); exact ⟨RXo.o 0 _ rfl _ hz, RXo.o 1 _ rfl _ hz, RXo.o 2 _ rfl _ hz, RXo.o 3 _ rfl _ hz, RYo.o 0 _ rfl _ hz, RYo.o 1 _ rfl _ hz, RYo.o 2 _ rfl _ hz, RYo.o 3 _ rfl _ hz⟩
     replace hHeld := hHeld (by decide)
     clear hK K
     try refine lyf ?_
     rotate_left
     refine j1q.cons (o := _) rfl (fun K hK => ?_) j1q.nil
     go_simp
     obtain ⟨wq2, hwq2⟩ := qx (wq.alloc (Obj.cells #[.int .i64 0] 3))
     have hg1 : wq2.heap[wq.heap.size]? = some (.cells #[.int .i64 0] 3 (0, 0)) := by rw [hwq2]; exact heap_alloc_new _ _
     have hbA : Below wq.heap.size wq wq2 := by rw [hwq2]; exact (qb).alloc qm _
     obtain ⟨g1, hgeg1⟩ := qx (wq.heap.size)
     rw [← hgeg1] at hg1 ⊢
     rw [← hwq2]
     clear hwq2
     have hlg1 : wq.heap.size ≤ g1 := Nat.le_of_eq hgeg1.symm
     clear hgeg1
     have hne9 : g0 ≠ g1 := by have := lt_of_block hg0; omega
     have hg0 := (hbA.block _ (lt_of_block hg0)).trans hg0
     have hlv := hlv.below hbA
     have hz := hz.trans (hbA.mono hsz)
     have hsz := Nat.le_trans hsz hbA.size
     clear hbA
     obtain ⟨wq, rfl⟩ : ∃ x : World, x = wq2 := ⟨_, rfl⟩
     refine hK.out _ _ (fun _ => ?_) (fun hHeld => ?_)
     ·
      (try dsimp only); exact ⟨RXo.o 0 _ rfl _ hz, RXo.o 1 _ rfl _ hz, RXo.o 2 _ rfl _ hz, RXo.o 3 _ rfl _ hz, RYo.o 0 _ rfl _ hz, RYo.o 1 _ rfl _ hz, RYo.o 2 _ rfl _ hz, RYo.o 3 _ rfl _ hz⟩
     replace hHeld := hHeld (by decide)
     clear hK K
     try refine lyf ?_
     refine z8q (rs := [7]) (by kernel_rfl) (by simp) ?_
     refine j1q.cons (o := _) rfl (fun K hK => ?_) j1q.nil
     rw [if_pos (by kernel_rfl)]
     refine h4q _ _ rfl wo.heap.size (Value.slice (some ⟨g0, 0, none⟩) 0 0) [] rfl hlv bva bs.length bvc bs rfl ((fun w' hb => HBS10.o w' (q0q hZ.o hb)) wq hz) rfl (by simp only [List.length_nil]; have := HL6.o; omega) hsz ?_
     intro v5 wr hl5 hgr5 hbb5 hat5
     rw [List.nil_append] at hl5
     have hg1 := (hgr5.block _ (lt_of_block hg1) (fun e => by have e9 : some g0 = some g1 := e.symm; have e8 := Option.some.inj e9; omega)).trans hg1
     have hz := hbb5 _ hz
     have hlv := hl5
     have hsz := Nat.le_trans hsz hgr5.size
     clear hl5 hgr5 hbb5 hat5 hg0
     obtain ⟨wq, rfl⟩ : ∃ x : World, x = wr := ⟨_, rfl⟩
     refine hK.out _ _ (fun _ => ?_) (fun hHeld => ?_)
     ·
      (try dsimp only); exact ⟨RXo.o 0 _ rfl _ hz, RXo.o 1 _ rfl _ hz, RXo.o 2 _ rfl _ hz, RXo.o 3 _ rfl _ hz, RYo.o 0 _ rfl _ hz, RYo.o 1 _ rfl _ hz, RYo.o 2 _ rfl _ hz, RYo.o 3 _ rfl _ hz⟩
     replace hHeld := hHeld (by decide)
     clear hK K
     try refine lyf ?_
     rotate_left
     refine j1q.cons (o := _) rfl (fun K hK => ?_) j1q.nil
     go_simp
     obtain ⟨wq2, hwq2⟩ := qx (wq.alloc (Obj.cells #[.int .i64 0] 3))
     have hg1 : wq2.heap[wq.heap.size]? = some (.cells #[.int .i64 0] 3 (0, 0)) := by rw [hwq2]; exact heap_alloc_new _ _
     have hbA : Below wq.heap.size wq wq2 := by rw [hwq2]; exact (qb).alloc qm _
     obtain ⟨g1, hgeg1⟩ := qx (wq.heap.size)
     rw [← hgeg1] at hg1 ⊢
     rw [← hwq2]
     clear hwq2
     have hlg1 : wq.heap.size ≤ g1 := Nat.le_of_eq hgeg1.symm
     clear hgeg1
     have hz := hz.trans (hbA.mono hsz)
     have hsz := Nat.le_trans hsz hbA.size
     clear hbA
     obtain ⟨wq, rfl⟩ : ∃ x : World, x = wq2 := ⟨_, rfl⟩
     refine hK.out _ _ (fun _ => ?_) (fun hHeld => ?_)
     ·
      (try dsimp only); exact ⟨RXo.o 0 _ rfl _ hz, RXo.o 1 _ rfl _ hz, RXo.o 2 _ rfl _ hz, RXo.o 3 _ rfl _ hz, RYo.o 0 _ rfl _ hz, RYo.o 1 _ rfl _ hz, RYo.o 2 _ rfl _ hz, RYo.o 3 _ rfl _ hz⟩
     replace hHeld := hHeld (by decide)
     clear hK K
     try refine lyf ?_
     refine z8q (rs := [5]) (by kernel_rfl) (by simp) ?_
     refine j1q.cons (o := _) rfl (fun K hK => ?_) j1q.nil
     go_simp
     obtain ⟨wq2, hwq2⟩ := qx (wq.alloc (Obj.cells #[] 3))
     have hg0 : wq2.heap[wq.heap.size]? = some (.cells #[] 3 (0, 0)) := by rw [hwq2]; exact heap_alloc_new _ _
     have hbA : Below wq.heap.size wq wq2 := by rw [hwq2]; exact (qb).alloc qm _
     obtain ⟨g0, hgeg0⟩ := qx (wq.heap.size)
     rw [← hgeg0] at hg0 ⊢
     rw [← hwq2]
     clear hwq2
     have hlg0 : wq.heap.size ≤ g0 := Nat.le_of_eq hgeg0.symm
     clear hgeg0
     have hne9 : g1 ≠ g0 := by have := lt_of_block hg1; omega
     have hg1 := (hbA.block _ (lt_of_block hg1)).trans hg1
     have hlv : LIo wq2 wo.heap.size (.slice (some ⟨g0, 0, none⟩) 0 0) [] := LIo.empty hg0 (Nat.le_trans hsz hlg0)
     have hz := hz.trans (hbA.mono hsz)
     have hsz := Nat.le_trans hsz hbA.size
     clear hbA
     obtain ⟨wq, rfl⟩ : ∃ x : World, x = wq2 := ⟨_, rfl⟩
     refine hK.out _ _ (fun _ => ?_) (fun hHeld => ?_)
     ·
      (try dsimp only); exact ⟨RXo.o 0 _ rfl _ hz, RXo.o 1 _ rfl _ hz, RXo.o 2 _ rfl _ hz, RXo.o 3 _ rfl _ hz, RYo.o 0 _ rfl _ hz, RYo.o 1 _ rfl _ hz, RYo.o 2 _ rfl _ hz, RYo.o 3 _ rfl _ hz⟩
     replace hHeld := hHeld (by decide)
     clear hK K
     try refine lyf ?_
     refine z8q (rs := [7]) (by kernel_rfl) (by simp) ?_
     refine j1q.cons (o := _) rfl (fun K hK => ?_) j1q.nil
     rw [if_pos (by kernel_rfl)]
     refine h4q _ _ rfl wo.heap.size (Value.slice (some ⟨g0, 0, none⟩) 0 0) [] rfl hlv bva bs.length bvc bs rfl ((fun w' hb => HBS10.o w' (q0q hZ.o hb)) wq hz) rfl (by simp only [List.length_nil]; have := HL6.o; omega) hsz ?_
     intro v5 wr hl5 hgr5 hbb5 hat5
     rw [List.nil_append] at hl5
     have hg1 := (hgr5.block _ (lt_of_block hg1) (fun e => by have e9 : some g0 = some g1 := e.symm; have e8 := Option.some.inj e9; omega)).trans hg1
     have hz := hbb5 _ hz
     have hlv := hl5
     have hsz := Nat.le_trans hsz hgr5.size
     clear hl5 hgr5 hbb5 hat5 hg0
     obtain ⟨wq, rfl⟩ : ∃ x : World, x = wr := ⟨_, rfl⟩
     refine hK.out _ _ (fun _ => ?_) (fun hHeld => ?_)
     ·
      (try dsimp only); exact ⟨RXo.o 0 _ rfl _ hz, RXo.o 1 _ rfl _ hz, RXo.o 2 _ rfl _ hz, RXo.o 3 _ rfl _ hz, RYo.o 0 _ rfl _ hz, RYo.o 1 _ rfl _ hz, RYo.o 2 _ rfl _ hz, RYo.o 3 _ rfl _ hz⟩
     replace hHeld := hHeld (by decide)
     clear hK K
     try refine lyf ?_
     rotate_left
     all_goals
      refine z8q (rs := [10]) (by kernel_rfl) (by simp) ?_
      refine j1q.cons (o := _) rfl (fun K hK => ?_) j1q.nil
      rw [if_pos (by kernel_rfl)]
      refine m6q _ _ rfl wo.heap.size v5 bs rfl hlv g1 1 0 rfl hg1 (by have := HL6.o; omega) hsz ?_
      intro v6 wr hl6 hgr6 hbb6 hat6
      have hz := hbb6 _ hz
      have hlv := hl6
      have hsz := Nat.le_trans hsz hgr6.size
      clear hl6 hgr6 hbb6 hat6 hg1
      obtain ⟨wq, rfl⟩ : ∃ x : World, x = wr := ⟨_, rfl⟩
      refine hK.out _ _ (fun _ => ?_) (fun hHeld => ?_)
      ·
       (try dsimp only); exact ⟨RXo.o 0 _ rfl _ hz, RXo.o 1 _ rfl _ hz, RXo.o 2 _ rfl _ hz, RXo.o 3 _ rfl _ hz, RYo.o 0 _ rfl _ hz, RYo.o 1 _ rfl _ hz, RYo.o 2 _ rfl _ hz, RYo.o 3 _ rfl _ hz⟩
      replace hHeld := hHeld (by decide)
      clear hK K
      try refine lyf ?_
      obtain ⟨na, nc, rfl⟩ := hlv.form
      have hcap := j0w hlv
      have e1 : (bs ++ [0]).length = bs.length + 1 := by rw [List.length_append, List.length_singleton]
      simp only [e1] at hlv hcap ⊢
      have hints := hlv.ints (j2h (HWP.o 0 (by simp)).bit)
      refine z8q (rs := [14]) (by kernel_rfl) (by simp) (j1q.cons (o := _) rfl (fun K hK => ?_) j1q.nil)
      go_simp
      refine (KR0.o _ _ _ (q0q hZ.o hz) hints).mono ?_
      rintro en12 wr ⟨rfl, hb12⟩
      have hz := hz.trans (hb12.mono hsz)
      obtain ⟨wq, rfl⟩ : ∃ x : World, x = wr := ⟨_, rfl⟩
      try go_wp2_with fail
      refine hK.out _ _ (fun _ => ?_) (fun hHeld => ?_)
      ·
       (try dsimp only); exact ⟨RXo.o 0 _ rfl _ hz, RXo.o 1 _ rfl _ hz, RXo.o 2 _ rfl _ hz, RXo.o 3 _ rfl _ hz, RYo.o 0 _ rfl _ hz, RYo.o 1 _ rfl _ hz, RYo.o 2 _ rfl _ hz, RYo.o 3 _ rfl _ hz⟩
      replace hHeld := hHeld (by decide)
      clear hK K
      try refine lyf ?_
      refine fp 15 ?_
      refine fp 16 ?_
      refine fp 17 ?_
      refine fp 18 ?_
      refine fp 19 ?_
      refine n6q (by kernel_rfl) ?_ _
      go_wp2_with fail
      go_meet
      exact ⟨rfl, rfl, hdd hz⟩
    case rest =>
     obtain ⟨w11, rfl⟩ : ∃ w8 : World, w8 = wc := ⟨_, rfl⟩
     obtain ⟨rfl, rfl, HZ11⟩ := hcut
     cases hb : b0 with
     | false =>
      go_wp2_with fail
      go_ret2
      rw [v1k (v0 := v0) HM0.o HCQ.o HVN.o HOKB.o (by rw [HR0.o, hb])]
      exact ⟨by rw [show C1 = ((1 + v0 : Nat) : Int) by have := HNUM.o; omega]; first | done | rfl, q0q HBW10.o (q0q hZ.o HZ11.o)⟩
     | true =>
      go_wp2_with fail
      go_roundw
      case rel => exact ⟨.inr (.inl ⟨by go_num, rfl, by first | exact hb | rfl⟩), hdd (q0q hZ.o HZ11.o)⟩
      case measure => simp [intOf]
   ·
    go_wp2_with fail
    clear k0 k1
    go_cut [21, 22] (fun nv fv wc => nv = .int .i64 V1 ∧ fv = .bool b1 ∧ Hi (Below wo.heap.size wo wc))
    case first =>
     have hz : Below wo.heap.size wo wo.drew := Below.drew qb
     have hsz : wo.heap.size ≤ wo.drew.heap.size := hz.size
     refine k4q [] (fun w' => w'.cell? ⟨w.heap.size, 0, none⟩ = some (.int .i64 (n : Nat)) ∧ w'.cell? ⟨w.heap.size, 1, none⟩ = some (.slice fa fn fc) ∧ w'.cell? ⟨w.heap.size, 2, none⟩ = some (.slice ga gn gc) ∧ w'.cell? ⟨w.heap.size, 3, none⟩ = some (.slice ra rn rc) ∧ w'.cell? ⟨w.heap.size + 1, 0, none⟩ = some (.int .i64 k) ∧ w'.cell? ⟨w.heap.size + 1, 1, none⟩ = some (.slice xa xn xc) ∧ w'.cell? ⟨w.heap.size + 1, 2, none⟩ = some (.slice za zn zc) ∧ w'.cell? ⟨w.heap.size + 1, 3, none⟩ = some (.slice (some ⟨CB, coff, none⟩) cn cc)) (by kernel_rfl) (by (try dsimp only); exact ⟨RXo.o 0 _ rfl _ hz, RXo.o 1 _ rfl _ hz, RXo.o 2 _ rfl _ hz, RXo.o 3 _ rfl _ hz, RYo.o 0 _ rfl _ hz, RYo.o 1 _ rfl _ hz, RYo.o 2 _ rfl _ hz, RYo.o 3 _ rfl _ hz⟩) (fun hHeld => ?_)
     obtain ⟨wq, hwq⟩ := qx (wo.drew)
     rw [← hwq] at hz hsz hHeld ⊢
     clear hwq
     refine fp 1 ?_
     refine fp 3 ?_
     refine fp 4 ?_
     refine fp 6 ?_
     refine fp 8 ?_
     refine fp 11 ?_
     refine fp 12 ?_
     refine fp 13 ?_
     refine ft 0 ?_
     refine ft 2 ?_
     refine z8q (rs := [5, 9]) (by kernel_rfl) (by simp) ?_
     refine j1q.cons (o := _) rfl (fun K hK => ?_) ?_
     go_simp
     obtain ⟨wq2, hwq2⟩ := qx (wq.alloc (Obj.cells #[] 3))
     have hg0 : wq2.heap[wq.heap.size]? = some (.cells #[] 3 (0, 0)) := by rw [hwq2]; exact heap_alloc_new _ _
     have hbA : Below wq.heap.size wq wq2 := by rw [hwq2]; exact (qb).alloc qm _
     obtain ⟨g0, hgeg0⟩ := qx (wq.heap.size)
     rw [← hgeg0] at hg0 ⊢
     rw [← hwq2]
     clear hwq2
     have hlg0 : wq.heap.size ≤ g0 := Nat.le_of_eq hgeg0.symm
     clear hgeg0
     have hlv : LIo wq2 wo.heap.size (.slice (some ⟨g0, 0, none⟩) 0 0) [] := LIo.empty hg0 (Nat.le_trans hsz hlg0)
     have hz := hz.trans (hbA.mono hsz)
     have hsz := Nat.le_trans hsz hbA.size
     clear hbA
     obtain ⟨wq, rfl⟩ : ∃ x : World, x = wq2 := ⟨_, rfl⟩
     refine hK.out _ _ (fun _ => ?_) (fun hHeld => ?_)
     ·
      (try dsimp only); exact ⟨RXo.o 0 _ rfl _ hz, RXo.o 1 _ rfl _ hz, RXo.o 2 _ rfl _ hz, RXo.o 3 _ rfl _ hz, RYo.o 0 _ rfl _ hz, RYo.o 1 _ rfl _ hz, RYo.o 2 _ rfl _ hz, RYo.o 3 _ rfl _ hz⟩
     replace hHeld := hHeld (by decide)
     clear hK K
     try refine lyf ?_
     refine z8q (rs := [7, 9]) (by kernel_rfl) (by simp) ?_
     refine j1q.cons (o := _) rfl (fun K hK => ?_) ?_
     rw [if_pos (by kernel_rfl)]
     refine h4q _ _ rfl wo.heap.size (Value.slice (some ⟨g0, 0, none⟩) 0 0) [] rfl hlv bva bs.length bvc bs rfl ((fun w' hb => HBS10.o w' (q0q hZ.o hb)) wq hz) rfl (by simp only [List.length_nil]; have := HL6.o; omega) hsz ?_
     intro v5 wr hl5 hgr5 hbb5 hat5
     rw [List.nil_append] at hl5
     have hz := hbb5 _ hz
     have hlv := hl5
     have hsz := Nat.le_trans hsz hgr5.size
     clear hl5 hgr5 hbb5 hat5 hg0
     obtain ⟨wq, rfl⟩ : ∃ x : World, x = wr := ⟨_, rfl⟩
     refine hK.out _ _ (fun _ => ?_) (fun hHeld => ?_)
     ·
      (try dsimp only); exact ⟨RXo.o 0 _ rfl _ hz, RXo.o 1 _ rfl _ hz, RXo.o 2 _ rfl _ hz, RXo.o 3 _ rfl _ hz, RYo.o 0 _ rfl _ hz, RYo.o 1 _ rfl _ hz, RYo.o 2 _ rfl _ hz, RYo.o 3 _ rfl _ hz⟩
     replace hHeld := hHeld (by decide)
     clear hK K
     try refine lyf ?_
     refine z8q (rs := [9]) (by kernel_rfl) (by simp) ?_
     refine j1q.cons (o := _) rfl (fun K hK => ?_) j1q.nil
     go_simp
     obtain ⟨wq2, hwq2⟩ := qx (wq.alloc (Obj.cells #[.int .i64 1] 3))
     have hg1 : wq2.heap[wq.heap.size]? = some (.cells #[.int .i64 1] 3 (0, 0)) := by rw [hwq2]; exact heap_alloc_new _ _
     have hbA : Below wq.heap.size wq wq2 := by rw [hwq2]; exact (qb).alloc qm _
     obtain ⟨g1, hgeg1⟩ := qx (wq.heap.size)
     rw [← hgeg1] at hg1 ⊢
     rw [← hwq2]
     clear hwq2
     have hlg1 : wq.heap.size ≤ g1 := Nat.le_of_eq hgeg1.symm
     clear hgeg1
     have hlv := hlv.below hbA
     have hz := hz.trans (hbA.mono hsz)
     have hsz := Nat.le_trans hsz hbA.size
     clear hbA
     obtain ⟨wq, rfl⟩ : ∃ x : World, x = wq2 := ⟨_, rfl⟩
     refine hK.out _ _ (fun _ => ?_) (fun hHeld => ?_)
     ·
      (try dsimp only); exact ⟨RXo.o 0 _ rfl _ hz, RXo.o 1 _ rfl _ hz, RXo.o 2 _ rfl _ hz, RXo.o 3 _ rfl _ hz, RYo.o 0 _ rfl _ hz, RYo.o 1 _ rfl _ hz, RYo.o 2 _ rfl _ hz, RYo.o 3 _ rfl _ hz⟩
     replace hHeld := hHeld (by decide)
     clear hK K
     try refine lyf ?_
     rotate_left
     refine j1q.cons (o := _) rfl (fun K hK => ?_) j1q.nil
     go_simp
     obtain ⟨wq2, hwq2⟩ := qx (wq.alloc (Obj.cells #[.int .i64 1] 3))
     have hg1 : wq2.heap[wq.heap.size]? = some (.cells #[.int .i64 1] 3 (0, 0)) := by rw [hwq2]; exact heap_alloc_new _ _
     have hbA : Below wq.heap.size wq wq2 := by rw [hwq2]; exact (qb).alloc qm _
     obtain ⟨g1, hgeg1⟩ := qx (wq.heap.size)
     rw [← hgeg1] at hg1 ⊢
     rw [← hwq2]
     clear hwq2
     have hlg1 : wq.heap.size ≤ g1 := Nat.le_of_eq hgeg1.symm
     clear hgeg1
     have hne9 : g0 ≠ g1 := by have := lt_of_block hg0; omega
     have hg0 := (hbA.block _ (lt_of_block hg0)).trans hg0
     have hlv := hlv.below hbA
     have hz := hz.trans (hbA.mono hsz)
     have hsz := Nat.le_trans hsz hbA.size
     clear hbA
     obtain ⟨wq, rfl⟩ : ∃ x : World, x = wq2 := ⟨_, rfl⟩
     refine hK.out _ _ (fun _ => ?_) (fun hHeld => ?_)
     ·
      (try dsimp only); exact ⟨RXo.o 0 _ rfl _ hz, RXo.o 1 _ rfl _ hz, RXo.o 2 _ rfl _ hz, RXo.o 3 _ rfl _ hz, RYo.o 0 _ rfl _ hz, RYo.o 1 _ rfl _ hz, RYo.o 2 _ rfl _ hz, RYo.o 3 _ rfl _ hz⟩
     replace hHeld := hHeld (by decide)
     clear hK K
     try refine lyf ?_
     refine z8q (rs := [7]) (by kernel_rfl) (by simp) ?_
     refine j1q.cons (o := _) rfl (fun K hK => ?_) j1q.nil
     rw [if_pos (by kernel_rfl)]
     refine h4q _ _ rfl wo.heap.size (Value.slice (some ⟨g0, 0, none⟩) 0 0) [] rfl hlv bva bs.length bvc bs rfl ((fun w' hb => HBS10.o w' (q0q hZ.o hb)) wq hz) rfl (by simp only [List.length_nil]; have := HL6.o; omega) hsz ?_
     intro v5 wr hl5 hgr5 hbb5 hat5
     rw [List.nil_append] at hl5
     have hg1 := (hgr5.block _ (lt_of_block hg1) (fun e => by have e9 : some g0 = some g1 := e.symm; have e8 := Option.some.inj e9; omega)).trans hg1
     have hz := hbb5 _ hz
     have hlv := hl5
     have hsz := Nat.le_trans hsz hgr5.size
     clear hl5 hgr5 hbb5 hat5 hg0
     obtain ⟨wq, rfl⟩ : ∃ x : World, x = wr := ⟨_, rfl⟩
     refine hK.out _ _ (fun _ => ?_) (fun hHeld => ?_)
     ·
      (try dsimp only); exact ⟨RXo.o 0 _ rfl _ hz, RXo.o 1 _ rfl _ hz, RXo.o 2 _ rfl _ hz, RXo.o 3 _ rfl _ hz, RYo.o 0 _ rfl _ hz, RYo.o 1 _ rfl _ hz, RYo.o 2 _ rfl _ hz, RYo.o 3 _ rfl _ hz⟩
     replace hHeld := hHeld (by decide)
     clear hK K
     try refine lyf ?_
     rotate_left
     refine j1q.cons (o := _) rfl (fun K hK => ?_) j1q.nil
     go_simp
     obtain ⟨wq2, hwq2⟩ := qx (wq.alloc (Obj.cells #[.int .i64 1] 3))
     have hg1 : wq2.heap[wq.heap.size]? = some (.cells #[.int .i64 1] 3 (0, 0)) := by rw [hwq2]; exact heap_alloc_new _ _
     have hbA : Below wq.heap.size wq wq2 := by rw [hwq2]; exact (qb).alloc qm _
     obtain ⟨g1, hgeg1⟩ := qx (wq.heap.size)
     rw [← hgeg1] at hg1 ⊢
     rw [← hwq2]
     clear hwq2
     have hlg1 : wq.heap.size ≤ g1 := Nat.le_of_eq hgeg1.symm
     clear hgeg1
     have hz := hz.trans (hbA.mono hsz)
     have hsz := Nat.le_trans hsz hbA.size
     clear hbA
     obtain ⟨wq, rfl⟩ : ∃ x : World, x = wq2 := ⟨_, rfl⟩
     refine hK.out _ _ (fun _ => ?_) (fun hHeld => ?_)
     ·
      (try dsimp only); exact ⟨RXo.o 0 _ rfl _ hz, RXo.o 1 _ rfl _ hz, RXo.o 2 _ rfl _ hz, RXo.o 3 _ rfl _ hz, RYo.o 0 _ rfl _ hz, RYo.o 1 _ rfl _ hz, RYo.o 2 _ rfl _ hz, RYo.o 3 _ rfl _ hz⟩
     replace hHeld := hHeld (by decide)
     clear hK K
     try refine lyf ?_
     refine z8q (rs := [5]) (by kernel_rfl) (by simp) ?_
     refine j1q.cons (o := _) rfl (fun K hK => ?_) j1q.nil
     go_simp
     obtain ⟨wq2, hwq2⟩ := qx (wq.alloc (Obj.cells #[] 3))
     have hg0 : wq2.heap[wq.heap.size]? = some (.cells #[] 3 (0, 0)) := by rw [hwq2]; exact heap_alloc_new _ _
     have hbA : Below wq.heap.size wq wq2 := by rw [hwq2]; exact (qb).alloc qm _
     obtain ⟨g0, hgeg0⟩ := qx (wq.heap.size)
     rw [← hgeg0] at hg0 ⊢
     rw [← hwq2]
     clear hwq2
     have hlg0 : wq.heap.size ≤ g0 := Nat.le_of_eq hgeg0.symm
     clear hgeg0
     have hne9 : g1 ≠ g0 := by have := lt_of_block hg1; omega
     have hg1 := (hbA.block _ (lt_of_block hg1)).trans hg1
     have hlv : LIo wq2 wo.heap.size (.slice (some ⟨g0, 0, none⟩) 0 0) [] := LIo.empty hg0 (Nat.le_trans hsz hlg0)
     have hz := hz.trans (hbA.mono hsz)
     have hsz := Nat.le_trans hsz hbA.size
     clear hbA
     obtain ⟨wq, rfl⟩ : ∃ x : World, x = wq2 := ⟨_, rfl⟩
     refine hK.out _ _ (fun _ => ?_) (fun hHeld => ?_)
     ·
      (try dsimp only); exact ⟨RXo.o 0 _ rfl _ hz, RXo.o 1 _ rfl _ hz, RXo.o 2 _ rfl _ hz, RXo.o 3 _ rfl _ hz, RYo.o 0 _ rfl _ hz, RYo.o 1 _ rfl _ hz, RYo.o 2 _ rfl _ hz, RYo.o 3 _ rfl _ hz⟩
     replace hHeld := hHeld (by decide)
     clear hK K
     try refine lyf ?_
     refine z8q (rs := [7]) (by kernel_rfl) (by simp) ?_
     refine j1q.cons (o := _) rfl (fun K hK => ?_) j1q.nil
     rw [if_pos (by kernel_rfl)]
     refine h4q _ _ rfl wo.heap.size (Value.slice (some ⟨g0, 0, none⟩) 0 0) [] rfl hlv bva bs.length bvc bs rfl ((fun w' hb => HBS10.o w' (q0q hZ.o hb)) wq hz) rfl (by simp only [List.length_nil]; have := HL6.o; omega) hsz ?_
     intro v5 wr hl5 hgr5 hbb5 hat5
     rw [List.nil_append] at hl5
     have hg1 := (hgr5.block _ (lt_of_block hg1) (fun e => by have e9 : some g0 = some g1 := e.symm; have e8 := Option.some.inj e9; omega)).trans hg1
     have hz := hbb5 _ hz
     have hlv := hl5
     have hsz := Nat.le_trans hsz hgr5.size
     clear hl5 hgr5 hbb5 hat5 hg0
     obtain ⟨wq, rfl⟩ : ∃ x : World, x = wr := ⟨_, rfl⟩
     refine hK.out _ _ (fun _ => ?_) (fun hHeld => ?_)
     ·
      (try dsimp only); exact ⟨RXo.o 0 _ rfl _ hz, RXo.o 1 _ rfl _ hz, RXo.o 2 _ rfl _ hz, RXo.o 3 _ rfl _ hz, RYo.o 0 _ rfl _ hz, RYo.o 1 _ rfl _ hz, RYo.o 2 _ rfl _ hz, RYo.o 3 _ rfl _ hz⟩
     replace hHeld := hHeld (by decide)
     clear hK K
     try refine lyf ?_
     rotate_left
     all_goals
      refine z8q (rs := [10]) (by kernel_rfl) (by simp) ?_
      refine j1q.cons (o := _) rfl (fun K hK => ?_) j1q.nil
      rw [if_pos (by kernel_rfl)]
      refine m6q _ _ rfl wo.heap.size v5 bs rfl hlv g1 1 1 rfl hg1 (by have := HL6.o; omega) hsz ?_
      intro v6 wr hl6 hgr6 hbb6 hat6
      have hz := hbb6 _ hz
      have hlv := hl6
      have hsz := Nat.le_trans hsz hgr6.size
      clear hl6 hgr6 hbb6 hat6 hg1
      obtain ⟨wq, rfl⟩ : ∃ x : World, x = wr := ⟨_, rfl⟩
      refine hK.out _ _ (fun _ => ?_) (fun hHeld => ?_)
      ·
       (try dsimp only); exact ⟨RXo.o 0 _ rfl _ hz, RXo.o 1 _ rfl _ hz, RXo.o 2 _ rfl _ hz, RXo.o 3 _ rfl _ hz, RYo.o 0 _ rfl _ hz, RYo.o 1 _ rfl _ hz, RYo.o 2 _ rfl _ hz, RYo.o 3 _ rfl _ hz⟩
      replace hHeld := hHeld (by decide)
      clear hK K
      try refine lyf ?_
      obtain ⟨na, nc, rfl⟩ := hlv.form
      have hcap := j0w hlv
      have e1 : (bs ++ [1]).length = bs.length + 1 := by rw [List.length_append, List.length_singleton]
      simp only [e1] at hlv hcap ⊢
      have hints := hlv.ints (j2h (HWP.o 1 (by simp)).bit)
      refine z8q (rs := [14]) (by kernel_rfl) (by simp) (j1q.cons (o := _) rfl (fun K hK => ?_) j1q.nil)
      go_simp
      refine (KR1.o _ _ _ (q0q hZ.o hz) hints).mono ?_
      rintro en12 wr ⟨rfl, hb12⟩
      have hz := hz.trans (hb12.mono hsz)
      obtain ⟨wq, rfl⟩ : ∃ x : World, x = wr := ⟨_, rfl⟩
      try go_wp2_with fail
      refine hK.out _ _ (fun _ => ?_) (fun hHeld => ?_)
      ·
       (try dsimp only); exact ⟨RXo.o 0 _ rfl _ hz, RXo.o 1 _ rfl _ hz, RXo.o 2 _ rfl _ hz, RXo.o 3 _ rfl _ hz, RYo.o 0 _ rfl _ hz, RYo.o 1 _ rfl _ hz, RYo.o 2 _ rfl _ hz, RYo.o 3 _ rfl _ hz⟩
      replace hHeld := hHeld (by decide)
      clear hK K
      try refine lyf ?_
      refine fp 15 ?_
      refine fp 16 ?_
      refine fp 17 ?_
      refine fp 18 ?_
      refine fp 19 ?_
      refine n6q (by kernel_rfl) ?_ _
      go_wp2_with fail
      go_meet
      exact ⟨rfl, rfl, hdd hz⟩
    case rest =>
     obtain ⟨w11, rfl⟩ : ∃ w8 : World, w8 = wc := ⟨_, rfl⟩
     obtain ⟨rfl, rfl, HZ11⟩ := hcut
     have HBB0 := hdd hb0
     clear hb0
     cases hb : b1 with
     | false =>
      go_wp2_with fail
      go_ret2
      rw [j5z (v0 := v0) (v1 := v1) (b1 := b1) HM0.o HCQ.o HVN.o HOKB.o (by rw [HR0.o, HBB0.o]) HR1.o]
      exact ⟨by rw [hb, show C2 = ((1 + v0 + v1 : Nat) : Int) by have := HNUM.o; omega]; first | done | rfl, q0q HBW10.o (q0q hZ.o HZ11.o)⟩
     | true =>
      go_wp2_with fail
      go_roundw
      case rel => exact ⟨.inr (.inr ⟨by go_num, rfl, HBB0.o, by first | exact hb | rfl⟩), hdd (q0q hZ.o HZ11.o)⟩
      case measure => simp [intOf]
   ·
    have HBB0 := hdd hb0
    have HBB1 := hdd hb1
    clear hb0 hb1
    go_wp2_with fail
    go_ret2
    rw [j5z (v0 := v0) (v1 := v1) (b1 := b1) HM0.o HCQ.o HVN.o HOKB.o (by rw [HR0.o, HBB0.o]) HR1.o]
    exact ⟨by rw [HBB1.o, show C2 = ((1 + v0 + v1 : Nat) : Int) by have := HNUM.o; omega]; first | done | rfl, q0q HBW10.o hZ.o⟩
end Go.Proofs.YtkkbmlkpgknhgaaGreat
