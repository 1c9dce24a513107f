import Derived.Test.YtkkbmlkpgknhgaaGreatZ8
import Derived.Deep.CutBlock
import Derived.Deep.DeepCutAuto
import Derived.Deep.Light
import Derived.Test.YtkkbmlkpgknhgaaGreatZ7
import Derived.Deep.DrawnRows
import Derived.Deep.AppendLies
import Derived.Laws.BytesString
set_option maxRecDepth 100000
set_option maxHeartbeats 16000000
namespace Go.Proofs.YtkkbmlkpgknhgaaGreat
open Go.RowKit
theorem q6j : (Tryz.prog.info? 147).map (·.size) = some 2 := by kernel_rfl


def q7h (w : World) (x y : Nat) (e : Ending) (w' : World) : Prop := (∃ q r, e = .returned (.agg #[q, r]) ∧ IsW w' q (q2q (x / y)) ∧ IsW w' r (q2q (x % y))) ∧ Below w.heap.size w w'

theorem x2j {u d : Value} (hu : ∃ a n c, u = .slice a n c) (hd : ∃ a n c, d = .slice a n c) : ∀ (j k : Nat), (#[u, d] : Array Value)[j]? ≠ some (U k) := by
 obtain ⟨a, n, c, rfl⟩ := hu
 obtain ⟨a', n', c', rfl⟩ := hd
 intro j k h
 match j, h with
 | 0, h => simp [U] at h
 | 1, h => simp [U] at h
 | (j + 2), h => simp at h
theorem q7y : ∀ (j k : Nat), (#[Value.slice none 0 0, Value.slice none 0 0] : Array Value)[j]? ≠ some (U k) := x2j ⟨_, _, _, rfl⟩ ⟨_, _, _, rfl⟩
def k0h (w : World) (R : Nat) (u d : Value) : World := (w.setCell ⟨R, 0, none⟩ u).setCell ⟨R, 1, none⟩ d
theorem s9q (w : World) (R : Nat) (u d : Value) : z9q R w (k0h w R u d) := ((z9q.refl R w).setCell 0 u).setCell 1 d
theorem j8v {w : World} {R : Nat} {u d : Value} {t : TypeId} (hR : w.heap[R]? = some (.cells #[.slice none 0 0, .slice none 0 0] t (0, 0))) :
  (k0h w R u d).heap[R]? = some (.cells #[u, d] t (0, 0)) :=
 heap_setCell_same _ _ 1 _ _ _ (heap_setCell_same _ _ 0 _ _ _ hR)

def hib (x : Nat) : Nat := if x < 2147483648 then 0 else 2147483648
theorem g0w {x : Nat} (hx : x < 4294967296) : bits .and .u32 (x : Int) 2147483648 = (hib x : Int) := by
 have h := u32_and_nat x 2147483648 hx (by omega)
 have e : x &&& 2147483648 = hib x := by
  rw [show (2147483648 : Nat) = 2 ^ 31 from rfl]
  refine Nat.eq_of_testBit_eq fun i => ?_
  rw [Nat.testBit_and, Nat.testBit_two_pow]
  unfold hib
  by_cases hlt : x < 2147483648
  ·
   rw [if_pos hlt, Nat.zero_testBit]
   by_cases hi : 31 = i
   ·
    subst hi
    rw [Nat.testBit_lt_two_pow (show x < 2 ^ 31 from hlt)]; rfl
   ·
    simp [hi]
  ·
   rw [if_neg hlt, show (2147483648 : Nat) = 2 ^ 31 from rfl, Nat.testBit_two_pow]
   by_cases hi : 31 = i
   ·
    subst hi
    rw [Nat.testBit_eq_decide_div_mod_eq, show (2 : Nat) ^ 31 = 2147483648 from rfl, show x / 2147483648 = 1 by omega]; rfl
   ·
    simp [hi]
 rw [e] at h
 exact h
def a6q (x s : Nat) : Nat := x * 2 ^ s
theorem x1y {x s : Nat} (h : a6q x s < 4294967296) : IntKind.u32.wrap ((x : Int) * 2 ^ s) = (a6q x s : Int) := by
 have e : ((x : Int) * 2 ^ s) = (a6q x s : Int) := by unfold a6q; simp
 rw [e]; exact IntWalk.u32_in _ (by omega)

structure x9z (w wr : World) (U C n Q la : Nat) (vv : Value) (mb M0 M Qt : List Nat) (k Y : Nat) : Prop where
 blk : Blk wr U 125 M
 ws : Ws M
 len : M.length = la + 1
 q : Blk wr C 125 Qt
 qw : Ws Qt
 ql : Qt.length = Q
 v : IsW wr vv mb
 bel : Below w.heap.size w wr
 res : wr.heap[w.heap.size]? = some (.cells #[.slice none 0 0, .slice none 0 0] 147 (0, 0))
 z : ∀ j, k + n ≤ j → nth M j = 0
 lt : pv M k n < Y
 low : ∀ j, j < k → nth M j = nth M0 j
 sum : pv Qt k (Q - k) * Y + pv M k n = pv M0 k (la + 1 - k)

theorem z0y {N M mb : List Nat} {i t g cr br br' d P : Nat} (hN : i + t < N.length) (hsame : nth N (i + t) = nth M (i + t)) (hP : P = z4q (nth mb t) g 0 cr) (hd : d + (j0q P + br) = nth N (i + t) + 4294967296 * br')
  (hv : pv N i t + pv mb 0 t * g = pv M i t + 4294967296 ^ t * (br + cr)) :
  pv (N.set (i + t) d) i (t + 1) + pv mb 0 (t + 1) * g = pv M i (t + 1) + 4294967296 ^ (t + 1) * (br' + P / 4294967296) := by
 have h2 := Nat.mod_add_div P 4294967296
 rw [d0q _ _ _ _ hN, v2q mb, v2q M, Nat.zero_add, Nat.pow_succ, ← hsame]
 unfold j0q at hd
 unfold z4q at hP
 generalize P / 4294967296 = q at *
 generalize P % 4294967296 = u at *
 generalize 4294967296 ^ t = p at *
 have e1 : p * (d + (u + br)) = p * (nth N (i + t) + 4294967296 * br') := by rw [hd]
 have e2 : p * (u + 4294967296 * q) = p * (cr + (nth mb t * g + 0)) := by rw [h2, hP]
 grind

theorem v3k {w : World} {u v : Value} {l m : List Nat} {x y : Nat} (hx : l = q2q x) (hy : m = q2q y) (hu : IsW w u l) (hv : IsW w v m) (h2 : 2 ≤ m.length) (hyx : y ≤ x) (hlb : l.length < 1073741824) :
  Calls Tryz.prog 139 #[u, v] w (q7h w x y) := by
 have hle : m.length ≤ l.length := by rw [hx, hy]; exact z6q hyx
 have hcmp : ¬ u3q x y < 0 := by unfold u3q; rw [if_neg (by omega)]; split <;> omega
 have hcd : decide (u3q x y < 0) = false := by simp; omega
 have HCMP := hdd hcmp
 have HX := hdd hx
 have HY := hdd hy
 have HU := hdd hu
 have HV := hdd hv
 have htop : nth m (m.length - 1) ≠ 0 := o8q (by rw [hy]; exact n0q _) (by intro e; rw [e] at h2; simp at h2)
 have HT := hdd htop
 have htl := y1q hv.ws (m.length - 1)
 have HB0 : Hi (∀ o, Below w.heap.size w (w.alloc o)) := hdd (fun o => (qb).alloc qm o)
 have hcell0 := hdd (fun (b off cap : Nat) (he : v = .slice (some ⟨b, off, none⟩) m.length cap) => (he ▸ hv).cell (m.length - 1) (by omega))
 have hO := hdd (fun w' (hb : Below w.heap.size w w') => q0j (w := w') (x := x) (y := y) (hx ▸ hu.below hb) (hy ▸ hv.below hb))
 obtain ⟨a, cap, rfl, i1, i2, i3, i4, i5⟩ := hu
 obtain ⟨b, bcap, rfl, k1, k2, k3, k4, k5⟩ := hv
 obtain ⟨bb, boff, rfl, hblt, -⟩ := k4 (by intro e; simp at e; subst e; simp at h2)
 have hm1 : ((m.length : Int) == 1) = false := by simp; omega
 have hyx' := hdd hyx
 clear i3 i4 i5 k3 k4 k5 hx hy htop hcmp hyx
 go_enter Tryz.func139, Tryz.ntmps139
 go_wp2_with fail
 refine (hO.o _ (HB0.o _)).mono ?_
 rintro en w0 ⟨rfl, n0, rfl⟩
 obtain ⟨w1, hw1⟩ := qx ((w.alloc (Obj.cells #[.slice none 0 0, .slice none 0 0] 147)).drewN n0)
 rw [← hw1]
 have HB1 : Hi (Below w.heap.size w w1) := hdd (by rw [hw1]; exact q5q (HB0.o _) n0)
 have HS1 : Hi (w1.heap.size = w.heap.size + 1) := hdd (by rw [hw1]; simp)
 have HR1 : Hi (w1.heap[w.heap.size]? = some (.cells #[.slice none 0 0, .slice none 0 0] 147 (0, 0))) := hdd (by rw [hw1]; exact heap_alloc_new w _)
 have hcell : w1.cell? ⟨bb, boff + (m.length - 1), none⟩ = some (.int .u32 (nth m (m.length - 1))) := by rw [HB1.o.cell (p := ⟨bb, boff + (m.length - 1), none⟩) hblt]; exact hcell0.o bb boff bcap rfl
 clear hw1 hcell0
 go_wp2_with fail
 go_loop [7] (fun t => ∃ s : Nat, t = .int .u64 s ∧ s < 32 ∧ Hi (a6q (nth m (m.length - 1)) s < 4294967296)) (fun t => 32 - (intOf t).toNat)
 case atStart => exact ⟨0, rfl, by omega, hdd (by unfold a6q; simpa using htl)⟩
 case round =>
  obtain ⟨s, rfl, hs, hts⟩ := hrel
  have e1 := x1y hts.o
  have e2 := g0w hts.o
  by_cases hlt : a6q (nth m (m.length - 1)) s < 2147483648
  ·
   have hz : ((hib (a6q (nth m (m.length - 1)) s) : Int) == 0) = true := by simp [hib, hlt]
   have hs' : s < 31 := by
    rcases Nat.lt_or_ge s 31 with h | h
    ·
     exact h
    ·
     exfalso
     have h1 : 2 ^ 31 ≤ 2 ^ s := Nat.pow_le_pow_right (by omega) h
     have h2 : 1 * 2 ^ s ≤ a6q (nth m (m.length - 1)) s := Nat.mul_le_mul_right _ (Nat.pos_of_ne_zero HT.o)
     omega
   have hnx : Hi (a6q (nth m (m.length - 1)) (s + 1) < 4294967296) := hdd (by
    have e : a6q (nth m (m.length - 1)) (s + 1) = a6q (nth m (m.length - 1)) s * 2 := by unfold a6q; rw [Nat.pow_succ, Nat.mul_assoc]
    omega)
   clear hlt
   go_wp2_with fail
   go_round
   case rel => exact ⟨s + 1, by go_num, by omega, hnx⟩
   case measure => simp [intOf]; omega
  ·
   have hz : ((hib (a6q (nth m (m.length - 1)) s) : Int) == 0) = false := by simp [hib, hlt]
   have hlo : Hi (2147483648 ≤ nth m (m.length - 1) * 2 ^ s) := hdd (by unfold a6q at hlt; omega)
   have hhi : Hi (nth m (m.length - 1) * 2 ^ s < 4294967296) := hdd hts.o
   have HN := hdd (y0j HY.o (by omega) hlo.o hhi.o)
   clear hlt hlo hhi
   go_wp2_with fail
   clear e1 e2 hz hts
   refine (y8w (HV.o.below HB1.o) s hs (by omega)).mono ?_
   rintro en w2 ⟨⟨Mb, rfl, hMb, hMbw, hMbl, hMbv⟩, hbel2, hsz2⟩
   have HSZ2 := hdd hsz2
   have hMt : Hi (Mb.take m.length = q2q (y * 2 ^ s)) := hdd (by
    have h9 := q9w hMbw
    rw [hMbv, HY.o, j6q, HN.o.1] at h9
    rw [HY.o] at h9 ⊢
    exact h9.symm)
   have hIb := hMb.isW_all hMbw (m.length + 1) (by omega) (by omega)
   rw [hMbl] at hIb
   have HIb : Hi (IsW w2 (.slice (some ⟨w1.heap.size, 0, none⟩) m.length (m.length + 1)) (q2q (y * 2 ^ s))) := hdd (by
    rw [← hMt.o]; exact hIb.take m.length (m.length + 1) (by omega) (by omega))
   have HB2 := hdd (q0q HB1.o hbel2)
   clear hMbw hMbl hMbv hsz2 hIb hMb hcell
   go_wp2_with fail
   refine (y8w (HU.o.below HB2.o) s hs hlb).mono ?_
   rintro en w3 ⟨⟨M0, rfl, hM0, hM0w, hM0l, hM0v⟩, hbel3, hsz3⟩
   have HM0 := hdd hM0
   have HM0w := hdd hM0w
   have HM0l := hdd hM0l
   have HM0v := hdd hM0v
   have HSZ3 := hdd hsz3
   have HB3 := hdd (q0q HB2.o hbel3)
   have HIb3 := hdd (HIb.o.below hbel3)
   have HR3 : Hi (w3.heap[w.heap.size]? = some (.cells #[.slice none 0 0, .slice none 0 0] 147 (0, 0))) := hdd (by
    have q1 := HS1.o
    have q2 := HSZ2.o
    rw [hbel3.block _ (by omega), hbel2.block _ (by omega)]; exact HR1.o)
   clear hM0 hM0w hM0l hM0v hsz3 hbel3 hbel2 HIb
   obtain ⟨Q, hQ⟩ : ∃ Q, Q + m.length = l.length + 1 := ⟨l.length + 1 - m.length, by omega⟩
   go_wp2_with (at_make; refine w8q rfl _ _ _ _ rfl us t8q Q _ _ rfl rfl (by omega) (by omega) (by omega) ?_; intro w4 hb4 hbel4 hs4; refine y0q ?_)
   refine z2q ?_
   have hY0 : Hi (0 < y * 2 ^ s) := hdd (by
    have := HN.o.2.2.1
    have h9 : 0 < 4294967296 ^ (m.length - 1) * 2147483648 := Nat.mul_pos (Nat.pow_pos (by omega)) (by omega)
    omega)
   have hst : Hi (pv M0 Q m.length < y * 2 ^ s) := hdd (by
    have h9 := z4y (x := x) (y := y) (s := s) (la := l.length) (n := m.length) (M0 := M0) (by rw [HM0v.o, HX.o, j6q]) HM0l.o (by rw [HX.o]; exact k5q x) hs (by omega) hle HN.o.2.2.1
    rwa [show l.length + 1 - m.length = Q by omega] at h9)
   obtain ⟨mb, hmb⟩ := qx (q2q (y * 2 ^ s))
   have hmbl : Hi (mb.length = m.length) := hdd (by rw [hmb]; exact HN.o.1)
   have hmbt : Hi (2147483648 ≤ nth mb (m.length - 1)) := hdd (by rw [hmb]; exact HN.o.2.1)
   have hmbv : Hi (val mb = y * 2 ^ s) := hdd (by rw [hmb, j6q])
   have hmbw : Hi (Ws mb) := hdd (by rw [hmb]; exact s5q _)
   have HSZ : Hi (w1.heap.size = w.heap.size + 1 ∧ w2.heap.size = w.heap.size + 2 ∧ w3.heap.size = w.heap.size + 3) := hdd ⟨HS1.o, by rw [HSZ2.o, HS1.o], by rw [HSZ3.o, HSZ2.o, HS1.o]⟩
   have HAT : Hi (x9z w w4 w2.heap.size w3.heap.size m.length Q l.length (.slice (some ⟨w1.heap.size, 0, none⟩) m.length (m.length + 1)) mb M0 M0 (List.replicate Q 0) Q (y * 2 ^ s)) := hdd {
    blk := HM0.o.below hbel4 (by have := HSZ.o; omega)
    ws := HM0w.o
    len := HM0l.o
    q := hb4
    qw := u4q _
    ql := by simp
    v := by rw [hmb]; exact HIb3.o.below hbel4
    bel := q5v HB3.o hbel4 (by have := HSZ.o; omega)
    res := by rw [hbel4.block _ (by have := HSZ.o; omega)]; exact HR3.o
    z := fun j hj => p5q (by have := HM0l.o; omega)
    lt := hst.o
    low := fun _ _ => rfl
    sum := by rw [Nat.sub_self, x2q, show l.length + 1 - Q = m.length by omega]; simp }
   obtain ⟨Y, hY⟩ := qx (y * 2 ^ s)
   have HYY := hdd hY
   rw [← hY] at hY0 hst hmbv HAT
   have hYB : Hi (Y ≤ 4294967296 ^ m.length) := hdd (by rw [hY]; exact Nat.le_of_lt HN.o.2.2.2)
   clear hmb hb4 hbel4 hY HM0 HIb3 HR3 hs4
   go_wp2_with fail
   go_loopg [12] Q (fun k i wr => ∃ (M Qt : List Nat), k ≤ Q ∧ i = .int .i64 ((k : Int) - 1) ∧ Hi (x9z w wr w2.heap.size w3.heap.size m.length Q l.length (.slice (some ⟨w1.heap.size, 0, none⟩) m.length (m.length + 1)) mb M0 M Qt k Y))
   case atStart => exact ⟨M0, _, Nat.le_refl _, by go_num, HAT⟩
   case round =>
    obtain ⟨M, Qt, hk, rfl, hat⟩ := hrel
    obtain ⟨k, rfl⟩ : ∃ k, k = gk := ⟨_, rfl⟩
    obtain ⟨wo, rfl⟩ : ∃ wo : World, wo = wr := ⟨_, rfl⟩
    by_cases hk0 : 0 < k
    ·
     obtain ⟨i, rfl⟩ : ∃ i, k = i + 1 := ⟨k - 1, by omega⟩
     have hdi : (((i + 1 : Nat) : Int) - 1) = (i : Int) := by omega
     rw [hdi]
     clear hdi hk0
     have hP : ((M.drop i).take (m.length + 1)).length = m.length + 1 := by have := hat.o.len; simp; omega
     have hAB : pv M i (m.length + 1) < 4294967296 * Y := by
      have h1 := c5q M i m.length
      have h2 := y1q hat.o.ws i
      have h4 : pv M (i + 1) m.length + 1 ≤ Y := hat.o.lt
      have h5 := Nat.mul_le_mul_left 4294967296 h4
      rw [Nat.mul_add] at h5
      omega
     have t3 := k0x h2 hP
     have t2 := k0v h2 hmbl.o
     rw [z2y (by omega), z2y (by omega), z2y (by omega), j3h, j3h, j3h] at t3
     obtain ⟨an, han⟩ := qx (nth M (i + m.length))
     obtain ⟨an1, han1⟩ := qx (nth M (i + (m.length - 1)))
     obtain ⟨an2, han2⟩ := qx (nth M (i + (m.length - 2)))
     obtain ⟨f, hf⟩ := qx (nth mb (m.length - 1))
     obtain ⟨sv, hsv⟩ := qx (nth mb (m.length - 2))
     have bn : an < 4294967296 := by rw [han]; exact y1q hat.o.ws _
     have bn1 : an1 < 4294967296 := by rw [han1]; exact y1q hat.o.ws _
     have bn2 : an2 < 4294967296 := by rw [han2]; exact y1q hat.o.ws _
     have bf : f < 4294967296 := by rw [hf]; exact y1q hmbw.o _
     have bs : sv < 4294967296 := by rw [hsv]; exact y1q hmbw.o _
     have bf0 : 2147483648 ≤ f := by rw [hf]; exact hmbt.o
     have c1 := hat.o.blk.cell (i + m.length) (by have := hat.o.len; omega)
     have c2 := hat.o.blk.cell (i + (m.length - 1)) (by have := hat.o.len; omega)
     have c3 := hat.o.blk.cell (i + (m.length - 2)) (by have := hat.o.len; omega)
     have c4 := hat.o.v
     rw [show m.length = mb.length from hmbl.o.symm] at c4
     have c5 := c4.cell (m.length - 1) (by have := hmbl.o; omega)
     have c6 := c4.cell (m.length - 2) (by have := hmbl.o; omega)
     rw [Nat.zero_add] at c5 c6
     rw [← han] at c1 t3
     rw [← han1] at c2 t3
     rw [← han2] at c3 t3
     rw [← hf] at c5 t2
     rw [← hsv] at c6 t2
     have e1 : i + (m.length - 1) = i + m.length - 1 := by omega
     have e2 : i + (m.length - 2) = i + m.length - 2 := by omega
     rw [e1] at c2
     rw [e2] at c3
     have hAP : Hi (pv M i (m.length + 1) = val ((M.drop i).take (m.length + 1))) := hdd rfl
     have T3 := hdd t3
     have T2 := hdd t2
     have HAB := hdd hAB
     have rl3 := hdd (l2q (j2z (j2j hat.o.ws i) (m.length + 1)) 0 (m.length - 2))
     have rl2 := hdd (l2q hmbw.o 0 (m.length - 2))
     have HANS := hdd (And.intro han (And.intro han1 (And.intro han2 (And.intro hf hsv))))
     clear c4 e1 e2 han han1 han2 hf hsv t3 t2 hAB hP
     have w6 := w7q bn bn1
     have w7 := i5q bn bn1
     have q3 := w5q (y4q an an1) f w7
     have hquo : x4q (y4q an an1) f < 18446744073709551616 := by
      have h8 := Nat.div_le_self (y4q an an1) f
      unfold x4q
      omega
     have hrem : b3q (y4q an an1) f < 4294967296 := by
      have := Nat.mod_lt (y4q an an1) (show 0 < f by omega); unfold b3q; omega
     have q2 : (y4q an an1 : Int) % (f : Int) = (b3q (y4q an an1) f : Int) := rfl
     have hb0 : Hi (0 < val mb) := hdd (by rw [hmbv.o]; exact hY0.o)
     have hqB : Hi (val ((M.drop i).take (m.length + 1)) / val mb < 4294967296) := hdd ((Nat.div_lt_iff_lt_mul hb0.o).2 (by rw [← hAP.o, hmbv.o]; exact HAB.o))
     have hstart : Hi (p2q (val ((M.drop i).take (m.length + 1))) (val mb) (y4q an an1) f (x4q (y4q an an1) f) (b3q (y4q an an1) f)) := hdd
      ⟨by unfold x4q b3q; rw [Nat.mul_comm]; exact Nat.div_add_mod _ _,
       by
       refine z0k (a2 := an2) (Bn := 4294967296 ^ (m.length - 2)) ?_ bn2 (by omega) (Nat.pow_pos (by omega)) ?_
       ·
        rw [T3.o, Nat.add_mul _ 1, Nat.one_mul]; have := rl3.o; omega
       ·
        rw [T2.o, Nat.add_mul]; omega⟩
     have hhf : Hi (y4q an an1 ≤ f * 4294967296 + 4294967295) := hdd (by
      have e3 := T3.o
      have e2 := T2.o
      have e1 := rl2.o
      have hA : val ((M.drop i).take (m.length + 1)) < 4294967296 * val mb := by rw [← hAP.o, hmbv.o]; exact HAB.o
      generalize 4294967296 ^ (m.length - 2) = Bn at e3 e2 e1
      have h := y5v e3 e2 e1 bs hA
      unfold y4q; omega)
     go_upto_block 4 with fail
     go_quiet (fail)
     go_upto_block 4 with fail
     clear w6 q3 q2
     go_cut [14] (fun g wr => ∃ gn n : Nat, g = .int .u64 gn ∧ gn < 4294967296 ∧ Hi (pv M i (m.length + 1) / Y ≤ gn ∧ gn ≤ pv M i (m.length + 1) / Y + 1) ∧ wr = wo.drewN n)
     case first =>
      go_wp2_with fail
      go_loopg [14, 15] (x4q (y4q an an1) f) (fun k g r wr => ∃ rn n : Nat, g = .int .u64 k ∧ r = .int .u64 rn ∧ rn < 4294967296 ∧ k < 18446744073709551616 ∧ Hi (p2q (val ((M.drop i).take (m.length + 1))) (val mb) (y4q an an1) f k rn) ∧ wr = wo.drewN n)
      case atStart => exact ⟨_, _, rfl, rfl, hrem, hquo, hstart, rfl⟩
      case round =>
       obtain ⟨r, n2, rfl, rfl, hr, hg, hga, rfl⟩ := hrel
       obtain ⟨g, rfl⟩ : ∃ g, g = gk := ⟨_, rfl⟩
       have hfin : Hi (∀ q, q < 4294967296 ∧ val ((M.drop i).take (m.length + 1)) / val mb ≤ q ∧ q ≤ val ((M.drop i).take (m.length + 1)) / val mb + 1 → q < 4294967296 ∧ Hi (pv M i (m.length + 1) / Y ≤ q ∧ q ≤ pv M i (m.length + 1) / Y + 1)) := hdd (fun q h => ⟨h.1, hdd (by rw [hAP.o, ← hmbv.o]; exact h.2)⟩)
       by_cases hbigG : 4294967296 ≤ g
       ·
        have hd : decide ((4294967295 : Int) < (g : Int)) = true := by simp; omega
        have HBG := hdd hbigG
        have hg1 : 1 ≤ g := by omega
        clear hbigG
        have hnext := hdd (hga.o.next (Nat.lt_of_lt_of_le hqB.o HBG.o))
        by_cases hbr : 4294967296 ≤ r + f
        ·
         have hd2 : decide ((4294967295 : Int) < (r : Int) + (f : Int)) = true := by simp; omega
         have HBR := hdd hbr
         clear hbr
         go_wp2_with fail
         go_quiet (fail)
         go_wp2_with fail
         go_meet
         case rel =>
          have hf9 := hfin.o (g - 1) (hnext.o.broke HBR.o hhf.o bs bf0 T3.o T2.o rl2.o)
          exact ⟨g - 1, _, by go_num, hf9.1, hf9.2, rfl⟩
        ·
         have hd2 : decide ((4294967295 : Int) < (r : Int) + (f : Int)) = false := by simp; omega
         have HBR := hdd hbr
         have hrf : r + f < 4294967296 := by omega
         clear hbr
         go_wp2_with fail
         go_quiet (fail)
         go_wp2_with fail
         go_roundg (g - 1)
         case measure => omega
         case rel => exact ⟨r + f, _, by go_num, by go_num, hrf, by omega, hnext, rfl⟩
       ·
        have hd : decide ((4294967295 : Int) < (g : Int)) = false := by simp; omega
        have hg2 : g < 4294967296 := by omega
        have m1 := d9q hg2 bs
        have m2 := w7q hr bn2
        have m3 := j8x r hr
        clear hbigG
        by_cases hgt : y4q r an2 < z4q g sv 0 0
        ·
         have hd3 : decide (y4q r an2 < z4q g sv 0 0) = true := by simpa using hgt
         have HGT := hdd hgt
         have hnext := hdd (hga.o.next (hga.o.down (a2 := an2) (s := sv) (by have h9 := hgt; unfold y4q z4q at h9; omega) T3.o rl3.o T2.o hb0.o))
         have hg1 : 1 ≤ g := by
          have h9 := hgt
          unfold y4q z4q at h9
          rcases Nat.eq_zero_or_pos g with h0 | h0
          ·
           subst h0; simp at h9
          ·
           exact h0
         clear hgt
         by_cases hbr : 4294967296 ≤ r + f
         ·
          have hd2 : decide ((4294967295 : Int) < (r : Int) + (f : Int)) = true := by simp; omega
          have HBR := hdd hbr
          clear hbr
          go_wp2_with fail
          go_quiet (fail)
          go_wp2_with fail
          go_meet
          case rel =>
           have hf9 := hfin.o (g - 1) (hnext.o.broke HBR.o hhf.o bs bf0 T3.o T2.o rl2.o)
           exact ⟨g - 1, _, by go_num, hf9.1, hf9.2, rfl⟩
         ·
          have hd2 : decide ((4294967295 : Int) < (r : Int) + (f : Int)) = false := by simp; omega
          have hrf : r + f < 4294967296 := by omega
          clear hbr
          go_wp2_with fail
          go_quiet (fail)
          go_wp2_with fail
          go_roundg (g - 1)
          case measure => omega
          case rel => exact ⟨r + f, _, by go_num, by go_num, hrf, by omega, hnext, rfl⟩
        ·
         have hd3 : decide (y4q r an2 < z4q g sv 0 0) = false := by simpa using hgt
         have hfit := hdd (hga.o.fits (a2 := an2) (s := sv) hg2 (by have h9 := hgt; unfold y4q z4q at h9; omega) bf0 T3.o T2.o rl2.o)
         clear hgt
         go_wp2_with fail
         go_quiet (fail)
         go_wp2_with fail
         go_meet
         case rel =>
          have hf9 := hfin.o g hfit.o
          exact ⟨g, n2 + nq, rfl, hf9.1, hf9.2, World.drewN_drewN _ _ _⟩
     case rest =>
      obtain ⟨g, n5, rfl, hgB, hG1, rfl⟩ := hcut
      clear T3 T2 HAB rl3 rl2 hquo hrem hb0 hqB hstart hhf w7 bn bn1 bn2 bf bf0 bs c1 c2 c3 c5 c6 HANS hAP
      have hUV : Hi ((Value.slice (some ⟨w1.heap.size, 0, none⟩) m.length (m.length + 1)).ownBlock ≠ some w2.heap.size ∧ (Value.slice (some ⟨w1.heap.size, 0, none⟩) m.length (m.length + 1)).ownBlock ≠ some w3.heap.size ∧ w3.heap.size ≠ w2.heap.size ∧ w.heap.size ≠ w2.heap.size ∧ w.heap.size ≠ w3.heap.size) := hdd (by
       have := HSZ.o
       simp [Value.ownBlock]; omega)
      go_wp2_with fail
      go_loopw [16, 17, 18] (fun c b j wr => ∃ (t cr br : Nat) (N : List Nat), t ≤ m.length + 1 ∧ j = .int .i64 t ∧ c = .int .u64 cr ∧ b = .int .u64 br ∧ br ≤ 1 ∧ cr < 4294967296 ∧ Hi (m.length < t → cr = 0) ∧ Blk wr w2.heap.size 125 N ∧ Hi (Ws N) ∧ Hi (N.length = l.length + 1) ∧ z9q w2.heap.size (wo.drewN n5) wr ∧
       Hi (∀ j, (j < i ∨ i + t ≤ j) → nth N j = nth M j) ∧ Hi (pv N i t + pv mb 0 t * g = pv M i t + 4294967296 ^ t * (br + cr))) (fun _ _ j _ => m.length + 1 - (intOf j).toNat)
      case atStart => exact ⟨0, 0, 0, M, Nat.zero_le _, rfl, rfl, rfl, by omega, by omega, hdd (fun _ => rfl), hat.o.blk.drewN n5, hdd hat.o.ws, hdd hat.o.len, z9q.refl _ _, hdd (fun _ _ => rfl), hdd (by simp [x2q])⟩
      case round =>
       obtain ⟨t, cr, br, N, ht, rfl, rfl, rfl, hbr, hcr, hz, hN, hNw, hNl, hon, hsame, hval⟩ := hrel
       have hvv := hdd ((hat.o.v.drewN n5).only hon hUV.o.1)
       by_cases htn : t < m.length + 1
       ·
        have hx := y1q hNw.o (i + t)
        have hcN := hN.cell (i + t) (by have := hNl.o; omega)
        have hfree := hN.free (i + t)
        by_cases htm : t < m.length
        ·
         have c9 := hvv.o
         rw [show m.length = mb.length from hmbl.o.symm] at c9
         have c8 := c9.cell t (by have := hmbl.o; omega)
         rw [Nat.zero_add] at c8
         have hvt := y1q hmbw.o t
         have p1 : IntKind.u64.wrap ((g : Int) * (nth mb t : Int)) = ((z4q (nth mb t) g 0 0 : Nat) : Int) := by rw [Int.mul_comm]; exact d9q hvt hgB
         have p2 := o0q hvt hgB (show 0 < 4294967296 by omega) hcr
         have p3 := r0q hvt hgB (show 0 < 4294967296 by omega) hcr
         obtain ⟨P, hP⟩ := qx (z4q (nth mb t) g 0 cr)
         rw [← hP] at p2 p3
         have HP := hdd hP
         have p4 := l0q P p3
         have hlow : j0q P < 4294967296 := Nat.mod_lt _ (by omega)
         clear c9 hP
         by_cases hlt : nth N (i + t) < j0q P + br
         ·
          have hd : decide ((nth N (i + t) : Int) < (j0q P : Int) + (br : Int)) = true := by simp; omega
          have hle2 : j0q P + br ≤ nth N (i + t) + 4294967296 := by omega
          have p5 : bits .and .u64 ((nth N (i + t) : Int) + 4294967296 - ((j0q P : Int) + (br : Int))) 4294967295 = (j0q (nth N (i + t) + 4294967296 - (j0q P + br)) : Int) := h9q (by omega) (by omega)
          have hlw : j0q (nth N (i + t) + 4294967296 - (j0q P + br)) < 4294967296 := Nat.mod_lt _ (by omega)
          have hst9 := hdd (z0y (N := N) (M := M) (mb := mb) (i := i) (t := t) (g := g) (cr := cr) (br := br) (br' := 1) (d := j0q (nth N (i + t) + 4294967296 - (j0q P + br))) (by have := hNl.o; omega) (hsame.o _ (by omega)) HP.o (by unfold j0q at hlt hle2 ⊢; omega) hval.o)
          clear hlt
          go_wp2_with fail
          go_roundw
          case rel => exact ⟨t + 1, P / 4294967296, 1, N.set (i + t) (j0q (nth N (i + t) + 4294967296 - (j0q P + br))), by omega, by go_num, by go_num, rfl, by omega, by omega, hdd (fun h => by omega), hN.setCell (i + t) _ _ (by unfold U; go_num), hdd (u0q hNw.o _ hlw), hdd (by rw [List.length_set]; exact hNl.o), hon.setCell _ _, hdd (fun j hj => by rw [u8q _ _ _ _ (by omega)]; exact hsame.o j (by omega)), hst9⟩
          case measure => simp [intOf]; omega
         ·
          have hd : decide ((nth N (i + t) : Int) < (j0q P : Int) + (br : Int)) = false := by simp; omega
          have hle2 : j0q P + br ≤ nth N (i + t) := by omega
          have p5 : bits .and .u64 ((nth N (i + t) : Int) - ((j0q P : Int) + (br : Int))) 4294967295 = (j0q (nth N (i + t) - (j0q P + br)) : Int) := h9q (by omega) (by omega)
          have hlw : j0q (nth N (i + t) - (j0q P + br)) < 4294967296 := Nat.mod_lt _ (by omega)
          have hst9 := hdd (z0y (N := N) (M := M) (mb := mb) (i := i) (t := t) (g := g) (cr := cr) (br := br) (br' := 0) (d := j0q (nth N (i + t) - (j0q P + br))) (by have := hNl.o; omega) (hsame.o _ (by omega)) HP.o (by unfold j0q at hlt hle2 ⊢; omega) hval.o)
          clear hlt
          go_wp2_with fail
          go_roundw
          case rel => exact ⟨t + 1, P / 4294967296, 0, N.set (i + t) (j0q (nth N (i + t) - (j0q P + br))), by omega, by go_num, by go_num, rfl, by omega, by omega, hdd (fun h => by omega), hN.setCell (i + t) _ _ (by unfold U; go_num), hdd (u0q hNw.o _ hlw), hdd (by rw [List.length_set]; exact hNl.o), hon.setCell _ _, hdd (fun j hj => by rw [u8q _ _ _ _ (by omega)]; exact hsame.o j (by omega)), hst9⟩
          case measure => simp [intOf]; omega
        ·
         obtain rfl : t = m.length := by omega
         have hP : cr = z4q (nth mb m.length) g 0 cr := by rw [p5q (by have := hmbl.o; omega)]; unfold z4q; omega
         have HP := hdd hP
         have p4 := l0q cr (by omega)
         have hlow : j0q cr < 4294967296 := Nat.mod_lt _ (by omega)
         clear hP
         by_cases hlt : nth N (i + m.length) < j0q cr + br
         ·
          have hd : decide ((nth N (i + m.length) : Int) < (j0q cr : Int) + (br : Int)) = true := by simp; omega
          have hle2 : j0q cr + br ≤ nth N (i + m.length) + 4294967296 := by omega
          have p5 : bits .and .u64 ((nth N (i + m.length) : Int) + 4294967296 - ((j0q cr : Int) + (br : Int))) 4294967295 = (j0q (nth N (i + m.length) + 4294967296 - (j0q cr + br)) : Int) := h9q (by omega) (by omega)
          have hlw : j0q (nth N (i + m.length) + 4294967296 - (j0q cr + br)) < 4294967296 := Nat.mod_lt _ (by omega)
          have hst9 := hdd (z0y (N := N) (M := M) (mb := mb) (i := i) (t := m.length) (g := g) (cr := cr) (br := br) (br' := 1) (d := j0q (nth N (i + m.length) + 4294967296 - (j0q cr + br))) (by have := hNl.o; omega) (hsame.o _ (by omega)) HP.o (by unfold j0q at hlt hle2 ⊢; omega) hval.o)
          clear hlt
          go_wp2_with fail
          go_roundw
          case rel => exact ⟨m.length + 1, cr / 4294967296, 1, N.set (i + m.length) (j0q (nth N (i + m.length) + 4294967296 - (j0q cr + br))), by omega, by go_num, by go_num, rfl, by omega, by omega, hdd (fun h => by omega), hN.setCell (i + m.length) _ _ (by unfold U; go_num), hdd (u0q hNw.o _ hlw), hdd (by rw [List.length_set]; exact hNl.o), hon.setCell _ _, hdd (fun j hj => by rw [u8q _ _ _ _ (by omega)]; exact hsame.o j (by omega)), hst9⟩
          case measure => simp [intOf]
         ·
          have hd : decide ((nth N (i + m.length) : Int) < (j0q cr : Int) + (br : Int)) = false := by simp; omega
          have hle2 : j0q cr + br ≤ nth N (i + m.length) := by omega
          have p5 : bits .and .u64 ((nth N (i + m.length) : Int) - ((j0q cr : Int) + (br : Int))) 4294967295 = (j0q (nth N (i + m.length) - (j0q cr + br)) : Int) := h9q (by omega) (by omega)
          have hlw : j0q (nth N (i + m.length) - (j0q cr + br)) < 4294967296 := Nat.mod_lt _ (by omega)
          have hst9 := hdd (z0y (N := N) (M := M) (mb := mb) (i := i) (t := m.length) (g := g) (cr := cr) (br := br) (br' := 0) (d := j0q (nth N (i + m.length) - (j0q cr + br))) (by have := hNl.o; omega) (hsame.o _ (by omega)) HP.o (by unfold j0q at hlt hle2 ⊢; omega) hval.o)
          clear hlt
          go_wp2_with fail
          go_roundw
          case rel => exact ⟨m.length + 1, cr / 4294967296, 0, N.set (i + m.length) (j0q (nth N (i + m.length) - (j0q cr + br))), by omega, by go_num, by go_num, rfl, by omega, by omega, hdd (fun h => by omega), hN.setCell (i + m.length) _ _ (by unfold U; go_num), hdd (u0q hNw.o _ hlw), hdd (by rw [List.length_set]; exact hNl.o), hon.setCell _ _, hdd (fun j hj => by rw [u8q _ _ _ _ (by omega)]; exact hsame.o j (by omega)), hst9⟩
          case measure => simp [intOf]
       ·
        obtain rfl : t = m.length + 1 := by omega
        have hc0 := hz.o (by omega)
        subst hc0
        have hnum : Hi (pv N i (m.length + 1) + Y * g = pv M i (m.length + 1) + 4294967296 ^ (m.length + 1) * br) := hdd (by
         have h9 := hval.o
         rw [w4q (l := mb) (by have := hmbl.o; omega), Nat.add_zero, hmbv.o] at h9
         exact h9)
        have hfq : ∀ M' : List Nat, pv M' i (m.length + 1) = pv M i (m.length + 1) % Y → (∀ j, (j < i ∨ i + (m.length + 1) ≤ j) → nth M' j = nth M j) →
          (∀ j, i + m.length ≤ j → nth M' j = 0) ∧ pv M' i m.length < Y ∧ (∀ j, j < i → nth M' j = nth M0 j) ∧ pv (Qt.set i (pv M i (m.length + 1) / Y)) i (Q - i) * Y + pv M' i m.length = pv M0 i (l.length + 1 - i) :=
         fun M' h1 h2 => j6y (M := M) (M' := M') (M0 := M0) (Qt := Qt) (i := i) (n := m.length) (N := l.length + 1) (Q := Q) (Y := Y) (A := pv M i (m.length + 1)) rfl (by omega) (by omega) hat.o.ql hYB.o hY0.o h1 h2 hat.o.z hat.o.low hat.o.sum
        have HFQ := hdd hfq
        have hnl := hdd (l2q hNw.o i (m.length + 1))
        have hqN := (hat.o.q.drewN n5).only hon hUV.o.2.2.1
        have hbelN := q4q (q5q hat.o.bel n5) hon (by have := HSZ.o; omega)
        have HBELN := hdd hbelN
        have hresN : Hi (wr.heap[w.heap.size]? = some (.cells #[.slice none 0 0, .slice none 0 0] 147 (0, 0))) := hdd ((hon.block _ hUV.o.2.2.2.1).trans hat.o.res)
        clear hfq hz hval hbelN ht hcr
        by_cases hb1 : br = 1
        ·
         have hs1 : Hi (g = pv M i (m.length + 1) / Y + 1 ∧ (pv N i (m.length + 1) + Y) % 4294967296 ^ (m.length + 1) = pv M i (m.length + 1) % Y) := hdd (by
          have h9 := hnum.o
          rw [hb1, Nat.mul_one] at h9
          refine y5z h9 hY0.o hG1.o.2 hnl.o ?_
          have h8 := Nat.mod_lt (pv M i (m.length + 1)) hY0.o
          have h7 := hYB.o
          have h6 : 4294967296 ^ m.length * 1 ≤ 4294967296 ^ m.length * 4294967296 := Nat.mul_le_mul_left _ (by omega)
          rw [Nat.pow_succ]; omega)
         have hg1 : 1 ≤ g := by rw [hs1.o.1]; exact Nat.le_add_left _ _
         have hgq : Hi (pv M i (m.length + 1) / Y = g - 1) := hdd (by rw [hs1.o.1, Nat.add_sub_cancel])
         have hbb : ((br : Int) == 1) = true := by simp [hb1]
         clear hb1
         obtain ⟨wm, rfl⟩ : ∃ wm : World, wm = wr := ⟨_, rfl⟩
         go_wp2_with fail
         go_loopw [22, 23] (fun c j wr => ∃ (t mr : Nat) (N2 : List Nat), t ≤ m.length + 1 ∧ j = .int .i64 t ∧ c = .int .u64 mr ∧ mr < 4294967296 ∧ Blk wr w2.heap.size 125 N2 ∧ Hi (Ws N2) ∧ Hi (N2.length = l.length + 1) ∧ z9q w2.heap.size wm wr ∧
          Hi (∀ j, (j < i ∨ i + t ≤ j) → nth N2 j = nth N j) ∧ Hi (pv N2 i t + 4294967296 ^ t * mr = pv N i t + pv mb 0 t)) (fun _ j _ => m.length + 1 - (intOf j).toNat)
         case atStart => exact ⟨0, 0, N, Nat.zero_le _, rfl, rfl, by omega, hN, hNw, hNl, z9q.refl _ _, hdd (fun _ _ => rfl), hdd (by simp [x2q])⟩
         case round =>
          obtain ⟨t, mr, N2, ht2, rfl, rfl, hmr, hN2, hN2w, hN2l, hon2, hsame2, hval2⟩ := hrel
          have hvx := hdd (hvv.o.only hon2 hUV.o.1)
          by_cases htn : t < m.length + 1
          ·
           have hx := y1q hN2w.o (i + t)
           have hcN2 := hN2.cell (i + t) (by have := hN2l.o; omega)
           have hfree2 := hN2.free (i + t)
           have hvt := y1q hmbw.o t
           by_cases htm : t < m.length
           ·
            have c9 := hvx.o
            rw [show m.length = mb.length from hmbl.o.symm] at c9
            have c8 := c9.cell t (by have := hmbl.o; omega)
            rw [Nat.zero_add] at c8
            obtain ⟨S, hS⟩ := qx (nth N2 (i + t) + mr + nth mb t)
            have HS := hdd hS
            have p4 : bits .and .u64 ((nth N2 (i + t) : Int) + (mr : Int) + (nth mb t : Int)) 4294967295 = (j0q S : Int) := h9q (by omega) (by omega)
            have hlow : j0q S < 4294967296 := Nat.mod_lt _ (by omega)
            have hst9 := hdd (j3v (L := N) (M := N2) (lb := mb) (off := i) (k := t) (cr := mr) (s := S) (by have := hN2l.o; omega) (by omega) (hsame2.o _ (by omega)) hval2.o)
            have hdv : Hi (((nth N2 (i + t) : Int) + (mr : Int) + (nth mb t : Int)) / 4294967296 = ((S / 4294967296 : Nat) : Int) ∧ S / 4294967296 < 4294967296) := hdd (by omega)
            clear c9 hS
            go_wp2_with fail
            go_roundw
            case rel => exact ⟨t + 1, S / 4294967296, N2.set (i + t) (j0q S), by omega, by go_num, by rw [hdv.o.1], hdv.o.2, hN2.setCell (i + t) _ _ (by unfold U; go_num), hdd (u0q hN2w.o _ hlow), hdd (by rw [List.length_set]; exact hN2l.o), hon2.setCell _ _, hdd (fun j hj => by rw [u8q _ _ _ _ (by omega)]; exact hsame2.o j (by omega)), hst9⟩
            case measure => simp [intOf]; omega
           ·
            obtain rfl : t = m.length := by omega
            obtain ⟨S, hS⟩ := qx (nth N2 (i + m.length) + mr)
            have HS := hdd hS
            have p4 : bits .and .u64 ((nth N2 (i + m.length) : Int) + (mr : Int)) 4294967295 = (j0q S : Int) := h9q (by omega) (by omega)
            have hlow : j0q S < 4294967296 := Nat.mod_lt _ (by omega)
            have hst9 := hdd (j3v (L := N) (M := N2) (lb := mb) (off := i) (k := m.length) (cr := mr) (s := S) (by have := hN2l.o; omega) (by rw [p5q (l := mb) (by have := hmbl.o; omega)]; omega) (hsame2.o _ (by omega)) hval2.o)
            have hdv : Hi (((nth N2 (i + m.length) : Int) + (mr : Int)) / 4294967296 = ((S / 4294967296 : Nat) : Int) ∧ S / 4294967296 < 4294967296) := hdd (by omega)
            clear hS
            go_wp2_with fail
            go_roundw
            case rel => exact ⟨m.length + 1, S / 4294967296, N2.set (i + m.length) (j0q S), by omega, by go_num, by rw [hdv.o.1], hdv.o.2, hN2.setCell (i + m.length) _ _ (by unfold U; go_num), hdd (u0q hN2w.o _ hlow), hdd (by rw [List.length_set]; exact hN2l.o), hon2.setCell _ _, hdd (fun j hj => by rw [u8q _ _ _ _ (by omega)]; exact hsame2.o j (by omega)), hst9⟩
            case measure => simp [intOf]
          ·
           obtain rfl : t = m.length + 1 := by omega
           have hin := hdd (v5h hN2w.o hval2.o)
           have hfin := hdd (HFQ.o N2 (by rw [hin.o, hmbv.o]; exact hs1.o.2) (fun j hj => by rw [hsame2.o j hj]; exact hsame.o j hj))
           have hq2 := hqN.only hon2 hUV.o.2.2.1
           have hcQ := hq2.cell i (by have := hat.o.ql; omega)
           have hfree := hq2.free i
           have hg2 : g - 1 < 4294967296 := by omega
           have hbelX := hdd (q4q HBELN.o hon2 (by have := HSZ.o; omega))
           have hresX : Hi (wr.heap[w.heap.size]? = some (.cells #[.slice none 0 0, .slice none 0 0] 147 (0, 0))) := hdd ((hon2.block _ hUV.o.2.2.2.1).trans hresN.o)
           go_wp2_with fail
           go_roundg i
           case measure => omega
           case rel =>
            have hset := (z9q.refl w3.heap.size wr).setCell i (Value.int IntKind.u32 ((g : Int) - 1))
            refine ⟨N2, Qt.set i (pv M i (m.length + 1) / Y), by omega, rfl, hdd ?_⟩
            exact { blk := hN2.only hset (fun e => hUV.o.2.2.1 e.symm), ws := hN2w.o, len := hN2l.o, q := hq2.setCell i _ _ (by rw [hgq.o]; unfold U; go_num), qw := u0q hat.o.qw _ (by rw [hgq.o]; exact hg2), ql := by rw [List.length_set]; exact hat.o.ql, v := hvx.o.only hset hUV.o.2.1, bel := q4q hbelX.o hset (by have := HSZ.o; omega), res := (hset.block _ hUV.o.2.2.2.2).trans hresX.o, z := hfin.o.1, lt := hfin.o.2.1, low := hfin.o.2.2.1, sum := hfin.o.2.2.2 }
        ·
         have hb0 : br = 0 := by omega
         have hbb : ((br : Int) == 1) = false := by simp [hb0]
         have hs1 : Hi (g = pv M i (m.length + 1) / Y ∧ pv N i (m.length + 1) = pv M i (m.length + 1) % Y) := hdd (by
          have h9 := hnum.o
          rw [hb0, Nat.mul_zero, Nat.add_zero] at h9
          exact v5x h9 hY0.o hG1.o.1 hnl.o)
         have hgq : Hi (pv M i (m.length + 1) / Y = g) := hdd hs1.o.1.symm
         have hfin := hdd (HFQ.o N hs1.o.2 hsame.o)
         have hcQ := hqN.cell i (by have := hat.o.ql; omega)
         have hfree := hqN.free i
         clear hb1 hb0
         go_wp2_with fail
         go_roundg i
         case measure => omega
         case rel =>
          have hset := (z9q.refl w3.heap.size wr).setCell i (Value.int IntKind.u32 (g : Int))
          refine ⟨N, Qt.set i (pv M i (m.length + 1) / Y), by omega, rfl, hdd ?_⟩
          exact { blk := hN.only hset (fun e => hUV.o.2.2.1 e.symm), ws := hNw.o, len := hNl.o, q := hqN.setCell i _ _ (by rw [hgq.o]; unfold U; go_num), qw := u0q hat.o.qw _ (by rw [hgq.o]; exact hgB), ql := by rw [List.length_set]; exact hat.o.ql, v := hvv.o.only hset hUV.o.2.1, bel := q4q HBELN.o hset (by have := HSZ.o; omega), res := (hset.block _ hUV.o.2.2.2.2).trans hresN.o, z := hfin.o.1, lt := hfin.o.2.1, low := hfin.o.2.2.1, sum := hfin.o.2.2.2 }
    ·
     obtain rfl : k = 0 := by omega
     have hqr : Hi (val Qt = x / y ∧ val M = x % y * 2 ^ s) := hdd (by
      have h9 := hat.o.sum
      rw [Nat.sub_zero, Nat.sub_zero, y8q hat.o.ql, y8q HM0l.o, HM0v.o, HX.o, j6q] at h9
      have h8 := hat.o.lt
      have e : pv M 0 m.length = val M := by
       have h7 : val M = pv M 0 (m.length + (l.length + 1 - m.length)) := by rw [y8q (by have := hat.o.len; omega)]
       rw [h7, o1q]
       have h6 : pv M (0 + m.length) (l.length + 1 - m.length) = 0 := by
        rw [l1q (m := List.replicate 0 0) (fun j _ => by rw [hat.o.z _ (by omega), e3q])]
        exact o2q _ _ _
       rw [h6]; simp
      rw [e] at h8 h9
      rw [HYY.o] at h8 h9
      have hp : 0 < 2 ^ s := Nat.pow_pos (by omega)
      have hYp : 0 < y * 2 ^ s := by rw [← HYY.o]; exact hY0.o
      have hd : x * 2 ^ s / (y * 2 ^ s) = val Qt := by
       rw [← h9, Nat.mul_comm (val Qt), Nat.mul_add_div hYp, Nat.div_eq_of_lt h8, Nat.add_zero]
      have hm : x * 2 ^ s % (y * 2 ^ s) = val M := by
       rw [← h9, Nat.mul_comm (val Qt), Nat.mul_add_mod, Nat.mod_eq_of_lt h8]
      rw [Nat.mul_div_mul_right _ _ hp] at hd
      rw [Nat.mul_mod_mul_right] at hm
      exact ⟨hd.symm, hm.symm⟩)
     have hIq := hat.o.q.isW_all hat.o.qw Q (by have := hat.o.ql; omega) (by have := hat.o.ql; omega)
     rw [hat.o.ql] at hIq
     have hIr := hat.o.blk.isW_all hat.o.ws (l.length + 1) (by have := hat.o.len; omega) (by have := hat.o.len; omega)
     rw [hat.o.len] at hIr
     have HIQ := hdd hIq
     have HIR := hdd hIr
     clear hIq hIr
     go_wp2_with fail
     refine (c8q HIQ.o hqr.o.1).mono ?_
     rintro en w6 ⟨⟨q, rfl, hq, hqo⟩, rfl⟩
     obtain ⟨qa, qn, qc, hqe⟩ := hq.form
     subst hqe
     have HQV : Hi (IsW wo (Value.slice qa qn qc) (q2q (x / y))) := hdd hq
     clear hq hqo
     go_wp2_with fail
     refine (g2k HIR.o s hs).mono ?_
     rintro en w7 ⟨⟨r, rfl, hr, hro⟩, hbel7⟩
     obtain ⟨ra, rn, rc, hre⟩ := hr.form
     subst hre
     rw [hqr.o.2, Nat.mul_div_cancel _ (Nat.pow_pos (by omega))] at hr
     have HRV := hdd hr
     have hR7 : w7.heap[w.heap.size]? = some (.cells #[.slice none 0 0, .slice none 0 0] 147 (0, 0)) := (hbel7.block _ (lt_of_block hat.o.res)).trans hat.o.res
     have r0 : w7.cell? ⟨w.heap.size, 0, none⟩ = some (Value.slice none 0 0) := by rw [cell_of_row _ _ _ _ _ _ hR7]; rfl
     have r1 : w7.cell? ⟨w.heap.size, 1, none⟩ = some (Value.slice none 0 0) := by rw [cell_of_row _ _ _ _ _ _ hR7]; rfl
     have f0 := frozen_of_row _ _ 0 _ _ hR7
     have f1 := frozen_of_row _ _ 1 _ _ hR7
     have HR7 := hdd hR7
     have HQ7 := hdd (HQV.o.below hbel7)
     have HB7 := hdd (q0q hat.o.bel hbel7)
     clear hR7 hr hro hbel7
     go_wp2_with fail
     exact bodyPost_ret (results_cell_row rfl _ _ w.heap.size _ _ _ _ rfl (j8v HR7.o) Tryz.underlying147 rfl q6j) rfl ⟨⟨_, _, rfl, HQ7.o.other HR7.o q7y (s9q _ _ _ _), HRV.o.other HR7.o q7y (s9q _ _ _ _)⟩, q4q HB7.o (s9q _ _ _ _) (by omega)⟩
theorem v3x {w : World} {u v : Value} {x y : Nat} (hu : IsW w u (q2q x)) (hv : IsW w v (q2q y)) (hxy : x < y) :
  Calls Tryz.prog 139 #[u, v] w (q7h w x y) := by
 have hcmp : u3q x y = -1 := by unfold u3q; rw [if_pos hxy]
 have HB0 : Hi (∀ o, Below w.heap.size w (w.alloc o)) := hdd (fun o => (qb).alloc qm o)
 have hO := hdd (fun w' (hb : Below w.heap.size w w') => q0j (w := w') (x := x) (y := y) (hu.below hb) (hv.below hb))
 rw [hcmp] at hO
 have HU := hdd hu
 have HD : Hi (x / y = 0 ∧ x % y = x) := hdd ⟨Nat.div_eq_of_lt hxy, Nat.mod_eq_of_lt hxy⟩
 obtain ⟨ua, un, uc, hue⟩ := hu.form
 subst hue
 obtain ⟨va, vn, vc, hve⟩ := hv.form
 subst hve
 clear hu hv hxy hcmp
 go_enter Tryz.func139, Tryz.ntmps139
 go_wp2_with fail
 refine (hO.o _ (HB0.o _)).mono ?_
 rintro en w0 ⟨rfl, n0, rfl⟩
 obtain ⟨w1, hw1⟩ := qx ((w.alloc (Obj.cells #[.slice none 0 0, .slice none 0 0] 147)).drewN n0)
 rw [← hw1]
 have HB1 : Hi (Below w.heap.size w w1) := hdd (by rw [hw1]; exact q5q (HB0.o _) n0)
 have HR1 : Hi (w1.heap[w.heap.size]? = some (.cells #[.slice none 0 0, .slice none 0 0] 147 (0, 0))) := hdd (by rw [hw1]; exact heap_alloc_new w _)
 have r0 : w1.cell? ⟨w.heap.size, 0, none⟩ = some (Value.slice none 0 0) := by rw [cell_of_row _ _ _ _ _ _ HR1.o]; rfl
 have r1 : w1.cell? ⟨w.heap.size, 1, none⟩ = some (Value.slice none 0 0) := by rw [cell_of_row _ _ _ _ _ _ HR1.o]; rfl
 have f0 := frozen_of_row _ _ 0 _ _ HR1.o
 have f1 := frozen_of_row _ _ 1 _ _ HR1.o
 clear hw1
 go_wp2_with fail
 exact bodyPost_ret (results_cell_row rfl _ _ w.heap.size _ _ _ _ rfl (j8v HR1.o) Tryz.underlying147 rfl q6j) rfl ⟨⟨_, _, rfl, by rw [HD.o.1, y7q]; exact IsW.nil _, by rw [HD.o.2]; exact (HU.o.below HB1.o).other HR1.o q7y (s9q _ _ _ _)⟩, q4q HB1.o (s9q _ _ _ _) (by omega)⟩

theorem v3w {w : World} {u v : Value} {x y : Nat} (hu : IsW w u (q2q x)) (hv : IsW w v (q2q y)) (h1 : (q2q y).length = 1) (hyx : y ≤ x) :
  Calls Tryz.prog 139 #[u, v] w (q7h w x y) := by
 have hcmp : ¬ u3q x y < 0 := by unfold u3q; rw [if_neg (by omega)]; split <;> omega
 have hcd : decide (u3q x y < 0) = false := by simp; omega
 have HCMP := hdd hcmp
 have hy0 : 0 < y := by
  rcases Nat.eq_zero_or_pos y with h | h
  ·
   rw [h, y7q] at h1; simp at h1
  ·
   exact h
 have hyw : y < 4294967296 := by have := x0q.1 (Nat.le_of_eq h1); omega
 have hn0 : nth (q2q y) 0 = y := by
  have h := j6q y
  match hd : q2q y, h1 with
  | [d], _ => rw [hd] at h; simpa [val, nth] using h
 have HB0 : Hi (∀ o, Below w.heap.size w (w.alloc o)) := hdd (fun o => (qb).alloc qm o)
 have hO := hdd (fun w' (hb : Below w.heap.size w w') => q0j (w := w') (x := x) (y := y) (hu.below hb) (hv.below hb))
 have hH := hdd (fun w' (hb : Below w.heap.size w w') => u9v (w := w') (x := x) (by_ := y) (hu.below hb) hy0 hyw)
 have hcell0 : Hi (∀ (b off cap : Nat), v = .slice (some ⟨b, off, none⟩) (q2q y).length cap → w.cell? ⟨b, off + 0, none⟩ = some (.int .u32 (nth (q2q y) 0))) := hdd (fun b off cap he => (he ▸ hv).cell 0 (by omega))
 obtain ⟨ua, un, uc, hue⟩ := hu.form
 subst hue
 obtain ⟨b, bcap, rfl, k1, k2, k3, k4, k5⟩ := hv
 obtain ⟨bb, boff, rfl, hblt, -⟩ := k4 (by intro e; simp at e; rw [e] at h1; simp at h1)
 have hc0 := hcell0.o bb boff bcap rfl
 rw [hn0, Nat.add_zero] at hc0
 have HYW := hdd hyw
 have HY0 := hdd hy0
 rw [h1] at hO ⊢
 clear k1 k2 k3 k4 k5 hcmp hyx hu hy0 hyw hn0 hcell0 h1
 go_enter Tryz.func139, Tryz.ntmps139
 go_wp2_with fail
 refine (hO.o _ (HB0.o _)).mono ?_
 rintro en w0 ⟨rfl, n0, rfl⟩
 obtain ⟨w1, hw1⟩ := qx ((w.alloc (Obj.cells #[.slice none 0 0, .slice none 0 0] 147)).drewN n0)
 rw [← hw1]
 have HB1 : Hi (Below w.heap.size w w1) := hdd (by rw [hw1]; exact q5q (HB0.o _) n0)
 have HR1 : Hi (w1.heap[w.heap.size]? = some (.cells #[.slice none 0 0, .slice none 0 0] 147 (0, 0))) := hdd (by rw [hw1]; exact heap_alloc_new w _)
 have hc1 : w1.cell? ⟨bb, boff, none⟩ = some (.int .u32 (y : Int)) := by rw [HB1.o.cell (p := ⟨bb, boff, none⟩) hblt]; exact hc0
 clear hw1 hc0
 go_wp2_with fail
 refine (hH.o _ HB1.o).mono ?_
 rintro en w2 ⟨⟨q, rfl, hq, -⟩, hb2⟩
 obtain ⟨qa, qn, qc, hqe⟩ := hq.form
 subst hqe
 have HQ2 := hdd hq
 have HB2 := hdd (q0q HB1.o hb2)
 have HR2 := hdd ((hb2.block _ (lt_of_block HR1.o)).trans HR1.o)
 obtain ⟨r, hr⟩ := qx (x % y)
 have HRR := hdd hr
 have HRW : Hi (r < 4294967296) := hdd (by rw [hr]; have h9 := HYW.o; have := Nat.mod_lt x HY0.o; omega)
 rw [← hr]
 clear hr hq hb2
 go_wp2_with fail
 obtain ⟨w3, hw3⟩ := qx (w2.alloc (Obj.cells #[.int IntKind.u32 (r : Int)] 125))
 have hB : Blk w3 w2.heap.size 125 [r] := by
  rw [hw3]
  show (w2.heap.push _)[w2.heap.size]? = _
  simp [U]
 have hb3 : Below w2.heap.size w2 w3 := by rw [hw3]; exact (qb).alloc qm _
 rw [← hw3]
 have HI := hdd (hB.isW_all (by intro z hz; simp at hz; have := HRW.o; omega) 1 (by simp) (by simp))
 have HQ3 := hdd (HQ2.o.below hb3)
 have HB3 := hdd (q0q HB2.o hb3)
 have HR3 := hdd ((hb3.block _ (lt_of_block HR2.o)).trans HR2.o)
 clear hw3 hB hb3
 refine (c8q HI.o (x := r) (by simp [val])).mono ?_
 rintro en w4 ⟨⟨t, rfl, ht, -⟩, rfl⟩
 obtain ⟨ta, tn, tc, hte⟩ := ht.form
 subst hte
 have HT3 := hdd ht
 have r0 : w3.cell? ⟨w.heap.size, 0, none⟩ = some (Value.slice none 0 0) := by rw [cell_of_row _ _ _ _ _ _ HR3.o]; rfl
 have r1 : w3.cell? ⟨w.heap.size, 1, none⟩ = some (Value.slice none 0 0) := by rw [cell_of_row _ _ _ _ _ _ HR3.o]; rfl
 have f0 := frozen_of_row _ _ 0 _ _ HR3.o
 have f1 := frozen_of_row _ _ 1 _ _ HR3.o
 clear ht
 go_wp2_with fail
 exact bodyPost_ret (results_cell_row rfl _ _ w.heap.size _ _ _ _ rfl (j8v HR3.o) Tryz.underlying147 rfl q6j) rfl ⟨⟨_, _, rfl, HQ3.o.other HR3.o q7y (s9q _ _ _ _), by rw [← HRR.o]; exact HT3.o.other HR3.o q7y (s9q _ _ _ _)⟩, q4q HB3.o (s9q _ _ _ _) (by omega)⟩

theorem j4k {w : World} {u v : Value} {x y : Nat} (hu : IsW w u (q2q x)) (hv : IsW w v (q2q y)) (hy : 0 < y) (hlb : (q2q x).length < 1073741824) :
  Calls Tryz.prog 139 #[u, v] w (q7h w x y) := by
 by_cases hxy : x < y
 ·
  exact v3x hu hv hxy
 ·
  by_cases h1 : (q2q y).length = 1
  ·
   exact v3w hu hv h1 (by omega)
  ·
   refine v3k rfl rfl hu hv ?_ (by omega) hlb
   have h2 : (q2q y).length ≠ 0 := by rw [k1q (by omega)]; simp
   omega
end Go.Proofs.YtkkbmlkpgknhgaaGreat
namespace Go.Proofs.YtkkbmlkpgknhgaaGreat
open Go.RowKit
attribute [local go_sem ↓] Go.wp_at_zero Go.wp_at_succ
theorem q1q {w : World} {g : Nat} {cs : Array Value} {t : TypeId} {fr : Nat × Nat} (h : w.heap[g]? = some (.cells cs t fr)) :
  ∀ (o : Nat) (v : Value), cs[o]? = some v → ∀ w', Below w.heap.size w w' → w'.cell? ⟨g, o, none⟩ = some v :=
 fun o v k w' hb => by rw [cell_of_row _ _ _ _ _ _ ((hb.block _ (lt_of_block h)).trans h)]; exact k

theorem a1q : q2q 1 = [1] := by unfold q2q; simp [q2q]
theorem y7z {w : World} {v : Value} (h : IsW w v [1]) : ∃ b off cap, v = .slice (some ⟨b, off, none⟩) 1 cap ∧ ∀ w', Below w.heap.size w w' → w'.cell? ⟨b, off, none⟩ = some (.int .u32 1) := by
 obtain ⟨a, cap, rfl, h1, h2, h3, h4, h5⟩ := id h
 obtain ⟨b, off, rfl, -, -⟩ := h4 (by simp)
 exact ⟨b, off, cap, rfl, fun w' hb => (h.below hb).cell 0 (by simp)⟩
theorem x3q {b : Bool} {a i : Option Addr} {n c j k : Nat} : ∀ v ∈ (#[Value.bool b, Value.slice a n c, Value.slice i j k] : Array Value).toList, v.oneCell' = true := by
 intro v hv; simp at hv; rcases hv with rfl | rfl | rfl <;> rfl

end Go.Proofs.YtkkbmlkpgknhgaaGreat
namespace Go.Proofs.YtkkbmlkpgknhgaaGreat
open Go.RowKit
theorem x7w {w : World} {v : Value} {l : List Nat} (h : IsW w v l) : ∃ a c, v = .slice a l.length c ∧ (0 < l.length → ∃ b off, a = some ⟨b, off, none⟩ ∧ ∀ j, j < l.length → w.cell? ⟨b, off + j, none⟩ = some (.int .u32 (nth l j))) := by
 obtain ⟨a, c, rfl, h1, h2, h3, h4, h5⟩ := id h
 refine ⟨a, c, rfl, fun hp => ?_⟩
 obtain ⟨b, off, rfl, -, -⟩ := h4 (by intro e; simp at e; subst e; simp at hp)
 exact ⟨b, off, rfl, fun j hj => h.cell j hj⟩

end Go.Proofs.YtkkbmlkpgknhgaaGreat
namespace Go.Proofs.YtkkbmlkpgknhgaaGreat
end Go.Proofs.YtkkbmlkpgknhgaaGreat
namespace Go.Proofs.YtkkbmlkpgknhgaaGreat
open Go.RowKit
end Go.Proofs.YtkkbmlkpgknhgaaGreat
