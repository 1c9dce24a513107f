import Derived.Test.YtkkbmlkpgknhgaaGreatZ1
import Derived.Deep.RegionWith
set_option maxRecDepth 100000
set_option maxHeartbeats 16000000
namespace Go.Proofs.YtkkbmlkpgknhgaaGreat
open Go.RowKit
variable {L M N l m : List Nat} {br by_ c cap cr f half hi j k lo n s x y : Nat} {u v : Value} {w : World}
theorem y3x {L' : List Nat} (hl : Ws l) (hm : Ws m) (hlen : m.length ≤ l.length) (hl' : L'.length = (l ++ List.replicate (l.length + 1 - l.length) 0).length)
  (hv : pv L' 0 (l.length + 1) = (pv (l ++ List.replicate (l.length + 1 - l.length) 0) 0 (l.length + 1) + val m) % 4294967296 ^ (l.length + 1)) : val L' = val l + val m := by
 have e1 : (l ++ List.replicate (l.length + 1 - l.length) 0).length = l.length + 1 := by simp
 rw [y8q (by omega), y8q e1, o4q, q2h] at hv
 rw [hv, Nat.mul_zero, Nat.add_zero]
 refine Nat.mod_eq_of_lt ?_
 have h1 := m0q hl
 have h2 := m0q hm
 have h3 : 4294967296 ^ m.length ≤ 4294967296 ^ l.length := Nat.pow_le_pow_right (by omega) hlen
 rw [Nat.pow_succ]
 omega

theorem k1j (hu : IsW w u l) (hv : IsW w v m) (hl : l.length < 1073741824) (hm : m.length < 1073741824) :
  Calls Tryz.prog 170 #[u, v] w fun e w' => (∃ r, e = .returned r ∧ IsW w' r (q2q (val l + val m)) ∧ (∀ b, r.ownBlock = some b → w.heap.size ≤ b)) ∧ Below w.heap.size w w' := by
 have HU := hdd hu
 have HV := hdd hv
 obtain ⟨a, cap, rfl, h1, h2, h3, h4, h5⟩ := hu
 obtain ⟨b, bcap, rfl, k1, k2, k3, k4, k5⟩ := hv
 clear h3 h4 h5 k3 k4 k5
 by_cases hlen : l.length < m.length
 ·
  go_enter Tryz.func170, Tryz.ntmps170
  go_wp2_with (at_make; refine v3q rfl _ _ _ _ rfl uw t8q (m.length + 1) rfl rfl hm ?_; intro w1 hb1 hbel hs1; refine y0q ?_)
  refine z2q ?_
  go_wp2_with ((with_reducible refine j0k ?_); refine m7q rfl (.tmp 17) (.tmp 18) _ _ rfl _ uw v0k _ 0 _ _ _ m _ _ rfl rfl (HV.o.below hbel) hb1 (by omega) (by simp) ?_; intro w2 hb2 hon; refine y0q ?_)
  refine z2q ?_
  rw [q3v] at hb2
  go_wp2_with fail
  refine (c2q hb2 (q9y HV.o.ws (u4q _)) (by simp) (by simp; omega) ((HU.o.below hbel).only0 hon (HU.o.own_ne qm)) (HU.o.own_ne qm)).mono ?_
  rintro en w3 ⟨rfl, L', hb3, hw3, hl3, hon3, -, hv3⟩
  have HV3 := hdd (y3x HV.o.ws HU.o.ws (by omega) hl3 hv3)
  have HL3 := hdd hl3
  clear hv3 hl3
  have hL3 : L'.length = m.length + 1 := by have := HL3.o; simp at this; omega
  have hI := hb3.isW_all hw3 (m.length + 1) (by omega) (by omega)
  rw [hL3] at hI
  have HI := hdd hI
  clear hL3 hI
  go_wp2_with fail
  refine (s4q HI.o HV3.o).mono ?_
  rintro en w4 ⟨⟨r, rfl, hr, hown⟩, rfl⟩
  go_wp2_with fail
  go_ret
  refine ⟨⟨r, rfl, by rw [Nat.add_comm]; exact hr, fun x hx => ?_⟩, q4q (q4q hbel hon qm) hon3 qm⟩
  have := hown x hx
  simp [Value.ownBlock] at this
  omega
 ·
  go_enter Tryz.func170, Tryz.ntmps170
  go_wp2_with (at_make; refine v3q rfl _ _ _ _ rfl uw t8q (l.length + 1) rfl rfl hl ?_; intro w1 hb1 hbel hs1; refine y0q ?_)
  refine z2q ?_
  go_wp2_with ((with_reducible refine j0k ?_); refine m7q rfl (.tmp 17) (.tmp 18) _ _ rfl _ uw v0k _ 0 _ _ _ l _ _ rfl rfl (HU.o.below hbel) hb1 (by omega) (by simp) ?_; intro w2 hb2 hon; refine y0q ?_)
  refine z2q ?_
  rw [q3v] at hb2
  go_wp2_with fail
  refine (c2q hb2 (q9y HU.o.ws (u4q _)) (by simp) (by simp; omega) ((HV.o.below hbel).only0 hon (HV.o.own_ne qm)) (HV.o.own_ne qm)).mono ?_
  rintro en w3 ⟨rfl, L', hb3, hw3, hl3, hon3, -, hv3⟩
  have HV3 := hdd (y3x HU.o.ws HV.o.ws (by omega) hl3 hv3)
  have HL3 := hdd hl3
  clear hv3 hl3
  have hL3 : L'.length = l.length + 1 := by have := HL3.o; simp at this; omega
  have hI := hb3.isW_all hw3 (l.length + 1) (by omega) (by omega)
  rw [hL3] at hI
  have HI := hdd hI
  clear hL3 hI
  go_wp2_with fail
  refine (s4q HI.o HV3.o).mono ?_
  rintro en w4 ⟨⟨r, rfl, hr, hown⟩, rfl⟩
  go_wp2_with fail
  go_ret
  refine ⟨⟨r, rfl, by exact hr, fun x hx => ?_⟩, q4q (q4q hbel hon qm) hon3 qm⟩
  have := hown x hx
  simp [Value.ownBlock] at this
  omega

theorem v9v (hu : IsW w u (q2q x)) (hv : IsW w v (q2q y)) (hl : (q2q x).length < 1073741824) (hm : (q2q y).length < 1073741824) :
  Calls Tryz.prog 170 #[u, v] w fun e w' => (∃ r, e = .returned r ∧ IsW w' r (q2q (x + y)) ∧ (∀ b, r.ownBlock = some b → w.heap.size ≤ b)) ∧ Below w.heap.size w w' := by
 have := k1j hu hv hl hm
 rwa [j6q, j6q] at this
def v7q (x y : Nat) : Nat := (x + 18446744073709551616 - y) % 18446744073709551616
theorem i3q (x y : Nat) (hx : x < 18446744073709551616) (hy : y < 18446744073709551616) : IntKind.u64.wrap ((x : Int) - (y : Int)) = (v7q x y : Int) := by
 rw [IntKind.wrap_u64]; unfold v7q; omega
theorem q4k (x y : Nat) : v7q x y < 18446744073709551616 := Nat.mod_lt _ (by omega)

theorem i2q (x y br : Nat) (hx : x < 4294967296) (hy : y < 4294967296) (hb : br ≤ 1) :
  v7q (v7q x y) br % 4294967296 + y + br = x + 4294967296 * (v7q (v7q x y) br / 9223372036854775808) ∧ v7q (v7q x y) br / 9223372036854775808 ≤ 1 := by
 have h1 : v7q x y = if y ≤ x then x - y else x + 18446744073709551616 - y := by unfold v7q; split <;> omega
 have h2 : v7q (v7q x y) br = if y + br ≤ x then x - y - br else x + 18446744073709551616 - y - br := by
  rw [h1]; unfold v7q; split <;> split <;> omega
 rw [h2]
 split <;> omega

theorem x7h (hk : k < M.length) (hl : Ws l) (hm : Ws m) (hb : br ≤ 1) (hv : pv M 0 k + pv m 0 k + 4294967296 ^ k * 0 = pv l 0 k + 4294967296 ^ k * br) :
  pv (M.set k (v7q (v7q (nth l k) (nth m k)) br % 4294967296)) 0 (k + 1) + pv m 0 (k + 1) = pv l 0 (k + 1) + 4294967296 ^ (k + 1) * (v7q (v7q (nth l k) (nth m k)) br / 9223372036854775808) := by
 have h := (i2q (nth l k) (nth m k) br (y1q hl k) (y1q hm k) hb).1
 have e := d0q M 0 k (v7q (v7q (nth l k) (nth m k)) br % 4294967296) (by omega)
 rw [Nat.zero_add] at e
 rw [e, v2q, v2q, Nat.zero_add, Nat.pow_succ]
 generalize v7q (v7q (nth l k) (nth m k)) br % 4294967296 = d at *
 generalize v7q (v7q (nth l k) (nth m k)) br / 9223372036854775808 = q at *
 generalize 4294967296 ^ k = p at *
 have : p * (d + nth m k + br) = p * (nth l k + 4294967296 * q) := by rw [h]
 grind

theorem v8z (hl : Ws l) (hM : Ws M) (hlen : M.length = l.length) (hle : val m ≤ val l) (hv : pv M 0 l.length + pv m 0 l.length = pv l 0 l.length + 4294967296 ^ l.length * br) : val M = val l - val m := by
 obtain ⟨r, hr⟩ := j5j m l.length
 have h1 := m0q hl
 have h2 := m0q hM
 rw [y8q hlen, y8q rfl] at hv
 rw [hlen] at h2
 have hp : 0 < 4294967296 ^ l.length := Nat.pow_pos (by omega)
 generalize 4294967296 ^ l.length = p at *
 have hr0 : r = 0 := by
  rcases Nat.eq_zero_or_pos r with h | h
  ·
   exact h
  ·
   have := Nat.mul_le_mul_left p h; omega
 subst hr0
 have hb0 : br = 0 := by
  rcases Nat.eq_zero_or_pos br with h | h
  ·
   exact h
  ·
   have := Nat.mul_le_mul_left p h; omega
 subst hb0
 omega

theorem k2w (hu : IsW w u l) (hv : IsW w v m) (hle : val m ≤ val l) :
  Calls Tryz.prog 171 #[u, v] w fun e w' => (∃ r, e = .returned r ∧ IsW w' r (q2q (val l - val m)) ∧ (∀ b, r.ownBlock = some b → w.heap.size ≤ b)) ∧ Below w.heap.size w w' := by
 have HU := hdd hu
 have HV := hdd hv
 have hll := hu.len
 have HLE := hdd hle
 obtain ⟨a, cap, rfl, h1, h2, h3, h4, h5⟩ := hu
 have H4 := hdd h4
 clear h3 h4 h5 hle hv
 go_enter Tryz.func171, Tryz.ntmps171
 go_wp2_with (at_make; refine v3q rfl _ _ _ _ rfl uw t8q l.length rfl rfl hll ?_; intro w1 hb1 hbel hs1; refine y0q ?_)
 refine z2q ?_
 go_wp2_with fail
 go_loopw [6, 15] (fun c i wr => ∃ (k br : Nat) (M : List Nat), k ≤ l.length ∧ i = .int .i64 k ∧ c = .int .u64 br ∧ br ≤ 1 ∧ Blk wr w.heap.size 125 M ∧ Hi (Ws M) ∧ Hi (M.length = l.length) ∧ Below w.heap.size w wr ∧
   Hi (pv M 0 k + pv m 0 k = pv l 0 k + 4294967296 ^ k * br)) (fun _ i _ => l.length - (intOf i).toNat)
 case atStart => exact ⟨0, 0, _, Nat.zero_le _, rfl, rfl, by omega, hb1, hdd (u4q _), hdd (by simp), hbel, hdd (by simp [x2q])⟩
 case round =>
  obtain ⟨k, br, M, hk, rfl, rfl, hbr, hM, hMw, hMl, hon, hval⟩ := hrel
  by_cases hkn : k < l.length
  ·
   have hx := y1q HU.o.ws k
   have hy := y1q HV.o.ws k
   obtain ⟨b, off, rfl, hlt, -⟩ := H4.o (by intro e; simp at e; subst e; simp at hkn)
   have hcell0 := HU.o.cell k hkn
   have hcell : wr.cell? ⟨b, off + k, none⟩ = some (.int .u32 (nth l k)) := by rw [hon.cell (p := ⟨b, off + k, none⟩) hlt]; exact hcell0
   have hcellM := hM.cell k (by have := hMl.o; omega)
   have hfree := hM.free k
   clear hcell0
   have w1 := i3q (nth l k) (nth m k) (by omega) (by omega)
   have w2 := i3q (v7q (nth l k) (nth m k)) br (q4k _ _) (by omega)
   have w3 := q4k (v7q (nth l k) (nth m k)) br
   go_wp2_with fail
   refine (q5y (HV.o.below hon) k).mono ?_
   rintro en w2 ⟨rfl, rfl⟩
   go_wp2_with fail
   go_roundw
   case rel =>
    have hw := i2q (nth l k) (nth m k) br hx hy hbr
    exact ⟨k + 1, v7q (v7q (nth l k) (nth m k)) br / 9223372036854775808, M.set k (v7q (v7q (nth l k) (nth m k)) br % 4294967296), by omega, by go_num, by go_num, hw.2,
     hM.setCell k _ _ (by unfold U; go_num), hdd (u0q hMw.o _ (by omega)), hdd (by rw [List.length_set]; exact hMl.o), hon.setCell qm _,
     hdd (x7h (by have := hMl.o; omega) HU.o.ws HV.o.ws hbr (by simpa using hval.o))⟩
   case measure => simp [intOf]; omega
  ·
   obtain rfl : k = l.length := by omega
   have hMv := hdd (v8z HU.o.ws hMw.o hMl.o HLE.o hval.o)
   have hI := hM.isW_all hMw.o l.length (by have := hMl.o; omega) (by have := hMl.o; omega)
   rw [hMl.o] at hI
   have HI := hdd hI
   clear hI
   go_wp2_with fail
   refine (s4q HI.o hMv.o).mono ?_
   rintro en w4 ⟨⟨r, rfl, hr, hown⟩, rfl⟩
   go_wp2_with fail
   go_ret
   refine ⟨⟨r, rfl, hr, fun x hx => ?_⟩, hon⟩
   have := hown x hx
   simp [Value.ownBlock] at this
   omega

theorem y3v (hu : IsW w u (q2q x)) (hv : IsW w v (q2q y)) (hle : y ≤ x) :
  Calls Tryz.prog 171 #[u, v] w fun e w' => (∃ r, e = .returned r ∧ IsW w' r (q2q (x - y)) ∧ (∀ b, r.ownBlock = some b → w.heap.size ≤ b)) ∧ Below w.heap.size w w' := by
 have := k2w hu hv (by rwa [j6q, j6q])
 rwa [j6q, j6q] at this
theorem q9j (n : Nat) (hn : n < 18446744073709551616) : Ws [n % 4294967296, n / 4294967296] ∧ val [n % 4294967296, n / 4294967296] = n := by
 refine ⟨?_, ?_⟩
 ·
  intro x hx; simp at hx; omega
 ·
  simp [val]; omega

theorem u1y (n : Nat) (hn : n < 18446744073709551616) :
  Calls Tryz.prog 128 #[.int .u64 n] w fun e w' => (∃ r, e = .returned r ∧ IsW w' r (q2q n) ∧ (∀ b, r.ownBlock = some b → w.heap.size ≤ b)) ∧ Below w.heap.size w w' := by
 go_enter Tryz.func128, Tryz.ntmps128
 go_wp2_with fail
 have hB : Blk (w.alloc (Obj.cells #[.int IntKind.u32 ((n : Int) % 4294967296), .int IntKind.u32 ((n : Int) / 4294967296)] 125)) w.heap.size 125 [n % 4294967296, n / 4294967296] := by
  show (w.heap.push _)[w.heap.size]? = _
  simp [U]
 have hI := hB.isW_all (q9j n hn).1 2 (by simp) (by simp)
 have HB := hdd hB
 have HI := hdd hI
 clear hB hI
 refine (s4q HI.o (q9j n hn).2).mono ?_
 rintro en w4 ⟨⟨r, rfl, hr, hown⟩, rfl⟩
 go_wp2_with fail
 go_ret
 refine ⟨⟨r, rfl, hr, fun x hx => ?_⟩, (qb).alloc qm _⟩
 have := hown x hx
 simp [Value.ownBlock] at this
 omega

theorem j1j (h : IsW w v l) (h0 : 0 < l.length) (ht : nth l (l.length - 1) ≠ 0) :
  Calls Tryz.prog 146 #[v] w fun e w' => (∃ s : Nat, e = .returned (.int .i64 s) ∧ s < 32 ∧ 2147483648 ≤ nth l (l.length - 1) * 2 ^ s ∧ nth l (l.length - 1) * 2 ^ s < 4294967296) ∧ w = w' := by
 have hb := y1q h.ws (l.length - 1)
 obtain ⟨a, cap, rfl, h1, h2, h3, h4, h5⟩ := id h
 obtain ⟨b, off, rfl, -, -⟩ := h4 (by intro e; simp at e; subst e; simp at h0)
 have hcell := h.cell (l.length - 1) (by omega)
 have HT := hdd ht
 clear h h3 h4 h5 ht
 go_enter Tryz.func146, Tryz.ntmps146
 go_wp2_with fail
 go_loop [3, 4] (fun n t => ∃ s x : Nat, n = .int .i64 s ∧ t = .int .u32 x ∧ s < 32 ∧ 0 < x ∧ x < 4294967296 ∧ Hi (x = nth l (l.length - 1) * 2 ^ s)) (fun n _ => 32 - (intOf n).toNat)
 case atStart => exact ⟨0, _, rfl, rfl, by omega, Nat.pos_of_ne_zero HT.o, hb, hdd (by simp)⟩
 case round =>
  obtain ⟨s, x, rfl, rfl, hs, hx0, hx, hval⟩ := hrel
  by_cases hlt : x < 2147483648
  ·
   have hs' : Hi (s < 31) := hdd (by
    rcases Nat.lt_or_ge s 31 with h | h
    ·
     exact h
    ·
     have h1 : 2 ^ 31 ≤ 2 ^ s := Nat.pow_le_pow_right (by omega) h
     have h2 : 1 * 2 ^ s ≤ nth l (l.length - 1) * 2 ^ s := Nat.mul_le_mul_right _ (Nat.pos_of_ne_zero HT.o)
     have h3 := hval.o
     omega)
   have hd : decide ((x : Int) < 2147483648) = true := by simp; omega
   have HLT := hdd hlt
   have HX := hdd hx
   clear hlt hx
   go_wp2_with fail
   go_round
   case rel => exact ⟨s + 1, x * 2, by go_num, by have := HLT.o; go_num, by have := hs'.o; omega, by omega, by have := HLT.o; omega, hdd (by rw [hval.o, Nat.pow_succ, Nat.mul_assoc])⟩
   case measure => simp [intOf]; omega
  ·
   have hv := hdd hval.o
   have hd : decide ((x : Int) < 2147483648) = false := by simp; omega
   have HLT := hdd hlt
   have HX := hdd hx
   clear hlt hx
   go_wp2_with fail
   go_ret
   exact ⟨⟨s, rfl, hs, by have := hv.o; have := HLT.o; omega, by have := hv.o; have := HX.o; omega⟩, rfl⟩

def k8q (x s : Nat) : Nat := x * 2 ^ s
def orS (cr x s : Nat) : Nat := cr + x * 2 ^ s
theorem z9j (hx : x < 4294967296) (hs : s < 32) : k8q x s < 9223372036854775808 := by
 unfold k8q
 have h1 : 2 ^ s ≤ 2 ^ 31 := Nat.pow_le_pow_right (by omega) (by omega)
 have h2 := Nat.mul_le_mul (Nat.le_of_lt_succ (show x < 4294967295 + 1 by omega)) h1
 omega
theorem y2v (hx : x < 4294967296) (hs : s < 32) : IntKind.u64.wrap ((x : Int) * 2 ^ s) = (k8q x s : Int) := by
 have h := z9j hx hs
 have e : ((x : Int) * 2 ^ s) = (k8q x s : Int) := by unfold k8q; simp
 rw [e]; exact IntWalk.u64_in _ (by omega)
theorem u8w (hx : x < 4294967296) (hc : cr < 2 ^ s) : orS cr x s < 2 ^ s * 4294967296 := by
 unfold orS
 have h : 2 ^ s * (x + 1) ≤ 2 ^ s * 4294967296 := Nat.mul_le_mul_left _ (by omega)
 grind
theorem g2v (hx : x < 4294967296) (hs : s < 32) (hc : cr < 2 ^ s) : bits .or .u64 (cr : Int) (k8q x s : Int) = (orS cr x s : Int) := by
 have h := z9j hx hs
 have h1 : 2 ^ s ≤ 2 ^ 31 := Nat.pow_le_pow_right (by omega) (by omega)
 rw [u64_or_nat cr (k8q x s) (by omega) (by omega)]
 congr 1
 unfold k8q orS
 rw [Nat.or_comm, Nat.mul_comm]
 have := Nat.two_pow_add_eq_or_of_lt hc x
 omega

theorem x7x (hk : k < M.length) (hv : pv M 0 k + 4294967296 ^ k * cr = pv l 0 k * 2 ^ s) :
  pv (M.set k (orS cr (nth l k) s % 4294967296)) 0 (k + 1) + 4294967296 ^ (k + 1) * (orS cr (nth l k) s / 4294967296) = pv l 0 (k + 1) * 2 ^ s := by
 have h := Nat.mod_add_div (orS cr (nth l k) s) 4294967296
 have e := d0q M 0 k (orS cr (nth l k) s % 4294967296) (by omega)
 rw [Nat.zero_add] at e
 rw [e, v2q, Nat.zero_add, Nat.pow_succ]
 generalize orS cr (nth l k) s / 4294967296 = q at *
 generalize orS cr (nth l k) s % 4294967296 = d at *
 unfold orS at h
 generalize 2 ^ s = t at *
 generalize 4294967296 ^ k = p at *
 have : p * (d + 4294967296 * q) = p * (cr + nth l k * t) := by rw [h]
 grind

theorem g4j (hl : M.length = l.length + 1) (hv : pv M 0 l.length + 4294967296 ^ l.length * cr = pv l 0 l.length * 2 ^ s) : val (M.set l.length cr) = val l * 2 ^ s := by
 rw [y8q rfl] at hv
 have e := d0q M 0 l.length cr (by omega)
 rw [Nat.zero_add, y8q (by rw [List.length_set]; exact hl)] at e
 rw [e, hv]

theorem z1z (h : IsW w v l) (s : Nat) (hs : s < 32) (hl : l.length < 1073741824) :
  Calls Tryz.prog 165 #[v, .int .i64 s] w fun e w' => (∃ M, e = .returned (.slice (some ⟨w.heap.size, 0, none⟩) (l.length + 1) (l.length + 1)) ∧ Blk w' w.heap.size 125 M ∧ Ws M ∧ M.length = l.length + 1 ∧ val M = val l * 2 ^ s) ∧ Below w.heap.size w w' ∧ w'.heap.size = w.heap.size + 1 := by
 have H := hdd h
 obtain ⟨a, cap, rfl, h1, h2, h3, h4, h5⟩ := h
 have H4 := hdd h4
 clear h3 h4 h5
 go_enter Tryz.func165, Tryz.ntmps165
 go_wp2_with (at_make; refine v3q rfl _ _ _ _ rfl uw t8q (l.length + 1) rfl rfl hl ?_; intro w1 hb1 hbel hs1; refine y0q ?_)
 refine z2q ?_
 go_wp2_with fail
 go_loopw [6, 15] (fun c i wr => ∃ (k cr : Nat) (M : List Nat), k ≤ l.length ∧ i = .int .i64 k ∧ c = .int .u64 cr ∧ cr < 2 ^ s ∧ Blk wr w.heap.size 125 M ∧ Hi (Ws M) ∧ Hi (M.length = l.length + 1) ∧ Below w.heap.size w wr ∧
   Hi (wr.heap.size = w.heap.size + 1) ∧ Hi (pv M 0 k + 4294967296 ^ k * cr = pv l 0 k * 2 ^ s)) (fun _ i _ => l.length - (intOf i).toNat)
 case atStart => exact ⟨0, 0, _, Nat.zero_le _, rfl, rfl, Nat.pow_pos (by omega), hb1, hdd (u4q _), hdd (by simp), hbel, hs1, hdd (by simp [x2q])⟩
 case round =>
  obtain ⟨k, cr, M, hk, rfl, rfl, hcr, hM, hMw, hMl, hon, hsz, hval⟩ := hrel
  have hcr2 : cr < 4294967296 := Nat.lt_trans hcr (Nat.lt_of_lt_of_le (Nat.pow_lt_pow_right (by omega) hs) qm)
  have HCR := hdd hcr
  clear hcr
  by_cases hkn : k < l.length
  ·
   have hx := y1q H.o.ws k
   obtain ⟨b, off, rfl, hlt, -⟩ := H4.o (by intro e; simp at e; subst e; simp at hkn)
   have hcell0 := H.o.cell k hkn
   have hcell : wr.cell? ⟨b, off + k, none⟩ = some (.int .u32 (nth l k)) := by rw [hon.cell (p := ⟨b, off + k, none⟩) hlt]; exact hcell0
   have hcellM := hM.cell k (by have := hMl.o; omega)
   have hfree := hM.free k
   have w1 := y2v hx hs
   have w2 := g2v hx hs HCR.o
   have w3 : orS cr (nth l k) s < 9223372036854775808 := by
    have := u8w hx HCR.o
    have h1 : 2 ^ s ≤ 2 ^ 31 := Nat.pow_le_pow_right (by omega) (by omega)
    omega
   clear hcell0
   go_wp2_with fail
   go_roundw
   case rel =>
    have hc' : orS cr (nth l k) s / 4294967296 < 2 ^ s := Nat.div_lt_of_lt_mul (by rw [Nat.mul_comm]; exact u8w hx HCR.o)
    exact ⟨k + 1, orS cr (nth l k) s / 4294967296, M.set k (orS cr (nth l k) s % 4294967296), by omega, by go_num, by go_num, hc',
     hM.setCell k _ _ (by unfold U; go_num), hdd (u0q hMw.o _ (by omega)), hdd (by rw [List.length_set]; exact hMl.o), hon.setCell qm _,
     hdd (by have := hsz.o; simpa [World.setCell] using this), hdd (x7x (by have := hMl.o; omega) hval.o)⟩
   case measure => simp [intOf]; omega
  ·
   obtain rfl : k = l.length := by omega
   have hcellM := hM.cell l.length (by have := hMl.o; omega)
   have hfree := hM.free l.length
   go_wp2_with fail
   go_ret
   refine ⟨⟨M.set l.length cr, rfl, hM.setCell _ _ _ (by unfold U; go_num), u0q hMw.o _ hcr2, by rw [List.length_set]; exact hMl.o, g4j hMl.o hval.o⟩, hon.setCell qm _, ?_⟩
   have := hsz.o; simpa [World.setCell] using this
def y4q (hi lo : Nat) : Nat := hi * 4294967296 + lo
theorem i5q (h : hi < 4294967296) (k : lo < 4294967296) : y4q hi lo < 18446744073709551616 := by unfold y4q; omega
theorem w7q (h : hi < 4294967296) (k : lo < 4294967296) : bits .or .u64 ((hi : Int) * 4294967296) (lo : Int) = (y4q hi lo : Int) := v1v hi lo h k

theorem c5q (l : List Nat) (j m : Nat) : pv l j (m + 1) = nth l j + 4294967296 * pv l (j + 1) m := by
 rw [Nat.add_comm m 1, o1q, v2q, x2q]; simp

theorem z3z (hl : Ws l) (k : Nat) : val l / 4294967296 ^ k = val (l.drop k) := by
 by_cases h : k ≤ l.length
 ·
  rw [q9z l k h, Nat.add_mul_div_left _ _ (Nat.pow_pos (by omega)), Nat.div_eq_of_lt (q1z hl k), Nat.zero_add]
 ·
  rw [List.drop_eq_nil_of_le (by omega)]
  exact Nat.div_eq_of_lt (Nat.lt_of_lt_of_le (m0q hl) (Nat.pow_le_pow_right (by omega) (by omega)))

theorem x0v (_hl : Ws l) (hs : s < 32) : (y4q (nth l (k + 1)) (nth l k) / 2 ^ s) % 4294967296 = val l / 2 ^ s / 4294967296 ^ k % 4294967296 := by
 rw [Nat.div_div_eq_div_mul, Nat.mul_comm, ← Nat.div_div_eq_div_mul]
 have e : val l / 4294967296 ^ k = val (l.drop k) := z3z (by assumption) k
 rw [e, l8q, l8q]
 have e2 : (2 : Nat) ^ s * 2 ^ (32 - s) = 4294967296 := by rw [← Nat.pow_add, show s + (32 - s) = 32 from by omega]
 generalize val (l.drop (k + 1 + 1)) = r
 have e3 : nth l k + 4294967296 * (nth l (k + 1) + 4294967296 * r) = y4q (nth l (k + 1)) (nth l k) + 2 ^ s * (4294967296 * (2 ^ (32 - s) * r)) := by
  unfold y4q
  have : 2 ^ s * (4294967296 * (2 ^ (32 - s) * r)) = (2 ^ s * 2 ^ (32 - s)) * (4294967296 * r) := by grind
  rw [this, e2]; omega
 rw [e3, Nat.add_mul_div_left _ _ (Nat.pow_pos (by omega)), Nat.add_mul_mod_self_left]

theorem v0z (hl : Ws l) (hs : s < 32) (hk : k < M.length) (hv : pv M 0 k = val l / 2 ^ s % 4294967296 ^ k) :
  pv (M.set k (y4q (nth l (k + 1)) (nth l k) / 2 ^ s % 4294967296)) 0 (k + 1) = val l / 2 ^ s % 4294967296 ^ (k + 1) := by
 have e := d0q M 0 k (y4q (nth l (k + 1)) (nth l k) / 2 ^ s % 4294967296) (by omega)
 rw [Nat.zero_add] at e
 rw [e, hv, x0v hl hs, Nat.pow_succ, Nat.mod_mul]

def x4q (t b : Nat) : Nat := t / b
theorem w5q (t b : Nat) (ht : t < 18446744073709551616) : IntKind.u64.wrap ((t : Int) / (b : Int)) = (x4q t b : Int) := by
 have h := Nat.div_le_self t b
 have e : (t : Int) / (b : Int) = ((t / b : Nat) : Int) := by rw [Int.natCast_ediv]
 rw [e]
 generalize hq : t / b = q at *
 unfold x4q
 rw [hq]
 exact IntWalk.u64_in _ (by omega)

theorem u5h {r : Nat} (hk : 0 < k) (hkn : k ≤ n) (hn : n ≤ M.length)
  (hlow : nth M (k - 1) = nth L (k - 1)) (hv : by_ * pv M k (n - k) + r = pv L k (n - k)) :
  by_ * pv (M.set (k - 1) (x4q (y4q r (nth M (k - 1))) by_)) (k - 1) (n - (k - 1)) + y4q r (nth M (k - 1)) % by_ = pv L (k - 1) (n - (k - 1)) := by
 have e : n - (k - 1) = (n - k) + 1 := by omega
 have ek : k - 1 + 1 = k := by omega
 rw [e, c5q, c5q, w2q _ _ _ (by omega), ek, l1q (m := M) (fun j _ => u8q _ _ _ _ (by omega)), ← hlow, ← hv]
 have h := Nat.mod_add_div (y4q r (nth M (k - 1))) by_
 unfold x4q
 generalize y4q r (nth M (k - 1)) / by_ = q at *
 generalize y4q r (nth M (k - 1)) % by_ = d at *
 unfold y4q at h
 grind

theorem v0j (h : IsW w v l) (s : Nat) (hs : s < 32) :
  Calls Tryz.prog 169 #[v, .int .i64 s] w fun e w' => (∃ r, e = .returned r ∧ IsW w' r (q2q (val l / 2 ^ s)) ∧ (∀ b, r.ownBlock = some b → w.heap.size ≤ b)) ∧ Below w.heap.size w w' := by
 have H := hdd h
 obtain ⟨a, cap, rfl, h1, h2, h3, h4, h5⟩ := h
 clear h3 h4 h5
 go_enter Tryz.func169, Tryz.ntmps169
 go_wp2_with (at_make; refine v3q rfl _ _ _ _ rfl uw t8q l.length rfl rfl h2 ?_; intro w1 hb1 hbel hs1; refine y0q ?_)
 refine z2q ?_
 go_wp2_with fail
 go_loopw [12] (fun i wr => ∃ (k : Nat) (M : List Nat), k ≤ l.length ∧ i = .int .i64 k ∧ Blk wr w.heap.size 125 M ∧ Hi (Ws M) ∧ Hi (M.length = l.length) ∧ Below w.heap.size w wr ∧
   Hi (pv M 0 k = val l / 2 ^ s % 4294967296 ^ k)) (fun i _ => l.length - (intOf i).toNat)
 case atStart => exact ⟨0, _, Nat.zero_le _, rfl, hb1, hdd (u4q _), hdd (by simp), hbel, hdd (by simp [x2q, Nat.mod_one])⟩
 case round =>
  obtain ⟨k, M, hk, rfl, hM, hMw, hMl, hon, hval⟩ := hrel
  by_cases hkn : k < l.length
  ·
   have hx := y1q H.o.ws k
   have hy := y1q H.o.ws (k + 1)
   have hcellM := hM.cell k (by have := hMl.o; omega)
   have hfree := hM.free k
   have w1 := w7q hy hx
   have w2 := i5q hy hx
   go_wp2_with fail
   refine (q5y (H.o.below hon) (k + 1)).mono ?_
   rintro en w2 ⟨rfl, rfl⟩
   go_wp2_with fail
   refine (q5y (H.o.below hon) k).mono ?_
   rintro en w2 ⟨rfl, rfl⟩
   go_wp2_with fail
   go_roundw
   case rel =>
    exact ⟨k + 1, M.set k (y4q (nth l (k + 1)) (nth l k) / 2 ^ s % 4294967296), by omega, by go_num, hM.setCell k _ _ (by unfold U; congr 1), hdd (u0q hMw.o _ (by omega)),
     hdd (by rw [List.length_set]; exact hMl.o), hon.setCell qm _, hdd (v0z H.o.ws hs (by have := hMl.o; omega) hval.o)⟩
   case measure => simp [intOf]; omega
  ·
   obtain rfl : k = l.length := by omega
   have hMv : Hi (val M = val l / 2 ^ s) := hdd (by
    have h1 := hval.o
    rw [y8q hMl.o] at h1
    rw [h1]
    exact Nat.mod_eq_of_lt (Nat.lt_of_le_of_lt (Nat.div_le_self _ _) (m0q H.o.ws)))
   have hI := hM.isW_all hMw.o l.length (by have := hMl.o; omega) (by have := hMl.o; omega)
   rw [hMl.o] at hI
   have HI := hdd hI
   clear hI
   go_wp2_with fail
   refine (s4q HI.o hMv.o).mono ?_
   rintro en w4 ⟨⟨r, rfl, hr, hown⟩, rfl⟩
   go_wp2_with fail
   go_ret
   refine ⟨⟨r, rfl, hr, fun x hx => ?_⟩, hon⟩
   have := hown x hx
   simp [Value.ownBlock] at this
   omega

theorem u6j {B : Nat} {e : TypeId} (hL : Blk w B e L) (hw : Ws L) (hn : n ≤ L.length) (hlen : L.length ≤ 1073741824) (hb0 : 0 < by_) (hb : by_ < 4294967296) :
  Calls Tryz.prog 149 #[.slice (some ⟨B, 0, none⟩) n cap, .int .u32 by_] w fun en w' => en = .returned (.int .u32 (pv L 0 n % by_ : Nat)) ∧
   ∃ L', Blk w' B e L' ∧ Ws L' ∧ L'.length = L.length ∧ z9q B w w' ∧ (∀ j, n ≤ j → nth L' j = nth L j) ∧ pv L' 0 n = pv L 0 n / by_ := by
 go_enter Tryz.func149, Tryz.ntmps149
 go_wp2_with fail
 go_loopw [5, 6] (fun c i wr => ∃ (k r : Nat) (M : List Nat), k ≤ n ∧ i = .int .i64 ((k : Int) - 1) ∧ c = .int .u64 r ∧ r < by_ ∧ Blk wr B e M ∧ Hi (Ws M) ∧ Hi (M.length = L.length) ∧ z9q B w wr ∧
   Hi (∀ j, (j < k ∨ n ≤ j) → nth M j = nth L j) ∧ Hi (by_ * pv M k (n - k) + r = pv L k (n - k))) (fun _ i _ => (intOf i + 1).toNat)
 case atStart => exact ⟨n, 0, L, Nat.le_refl _, rfl, rfl, hb0, hL, hdd hw, hdd rfl, z9q.refl _ _, hdd (fun _ _ => rfl), hdd (by simp [x2q])⟩
 case round =>
  obtain ⟨k, r, M, hk, rfl, rfl, hr, hM, hMw, hMl, hon, hsame, hval⟩ := hrel
  by_cases hk0 : 0 < k
  ·
   have hx := y1q hMw.o (k - 1)
   have hcellM := hM.cell (k - 1) (by have := hMl.o; omega)
   have hfree := hM.free (k - 1)
   have w1 := w7q (show r < 4294967296 by omega) hx
   have w2 := i5q (show r < 4294967296 by omega) hx
   have hq : x4q (y4q r (nth M (k - 1))) by_ < 4294967296 := by
    unfold x4q y4q
    have : by_ * (r + 1) ≤ by_ * by_ := Nat.mul_le_mul_left _ hr
    refine Nat.div_lt_of_lt_mul ?_
    have h2 : (r + 1) * 4294967296 ≤ by_ * 4294967296 := Nat.mul_le_mul_right _ hr
    omega
   have w3 := w5q (y4q r (nth M (k - 1))) by_ (by omega)
   go_wp2_with fail
   go_roundw
   case rel =>
    exact ⟨k - 1, y4q r (nth M (k - 1)) % by_, M.set (k - 1) (x4q (y4q r (nth M (k - 1))) by_), by omega, by go_num, by rw [← Int.natCast_emod], Nat.mod_lt _ hb0,
     hM.setCell _ _ _ (by unfold U; go_num), hdd (u0q hMw.o _ hq), hdd (by rw [List.length_set]; exact hMl.o), hon.setCell _ _,
     hdd (fun j hj => by rw [u8q _ _ _ _ (by omega)]; exact hsame.o j (by omega)), hdd (u5h hk0 hk (by have := hMl.o; omega) (hsame.o _ (by omega)) hval.o)⟩
   case measure => simp [intOf]; omega
  ·
   obtain rfl : k = 0 := by omega
   have h1 : Hi (pv L 0 n % by_ = r ∧ pv L 0 n / by_ = pv M 0 n) := hdd (by
    have h2 := hval.o
    rw [Nat.sub_zero] at h2
    rw [← h2]
    exact ⟨by rw [Nat.mul_add_mod, Nat.mod_eq_of_lt hr], by rw [Nat.mul_add_div hb0, Nat.div_eq_of_lt hr, Nat.add_zero]⟩)
   have hr2 : r < 4294967296 := by omega
   go_wp2_with fail
   go_ret
   refine ⟨g4q (by rw [h1.o.1]), M, hM, hMw.o, hMl.o, hon, fun j hj => hsame.o j (Or.inr hj), h1.o.2.symm⟩
def z4q (x f y c : Nat) : Nat := c + (x * f + y)
theorem r0q (hx : x < 4294967296) (hf : f < 4294967296) (hy : y < 4294967296) (hc : c < 4294967296) : z4q x f y c < 18446744073709551616 := by
 unfold z4q
 have := Nat.mul_le_mul (Nat.le_of_lt_succ (show x < 4294967295 + 1 by omega)) (Nat.le_of_lt_succ (show f < 4294967295 + 1 by omega))
 omega
theorem d9q (hx : x < 4294967296) (hf : f < 4294967296) : IntKind.u64.wrap ((x : Int) * (f : Int)) = ((z4q x f 0 0 : Nat) : Int) := by
 have h := r0q hx hf (show 0 < 4294967296 by omega) (show 0 < 4294967296 by omega)
 have e : (x : Int) * (f : Int) = ((z4q x f 0 0 : Nat) : Int) := by unfold z4q; simp
 rw [e]; exact IntWalk.u64_in _ (by omega)
theorem z5k (hx : x < 4294967296) (hf : f < 4294967296) (hy : y < 4294967296) : IntKind.u64.wrap (((z4q x f 0 0 : Nat) : Int) + (y : Int)) = ((z4q x f y 0 : Nat) : Int) := by
 have h := r0q hx hf hy (show 0 < 4294967296 by omega)
 have e : ((z4q x f 0 0 : Nat) : Int) + (y : Int) = ((z4q x f y 0 : Nat) : Int) := by unfold z4q; simp
 rw [e]; exact IntWalk.u64_in _ (by omega)
theorem o0q (hx : x < 4294967296) (hf : f < 4294967296) (hy : y < 4294967296) (hc : c < 4294967296) : IntKind.u64.wrap ((c : Int) + ((z4q x f y 0 : Nat) : Int)) = ((z4q x f y c : Nat) : Int) := by
 have h := r0q hx hf hy hc
 have e : (c : Int) + ((z4q x f y 0 : Nat) : Int) = ((z4q x f y c : Nat) : Int) := by unfold z4q; simp
 rw [e]; exact IntWalk.u64_in _ (by omega)

theorem z0h {i : Nat} (hi : j + i < N.length) (hsame : nth N (j + i) = nth M (j + i)) (hv : pv N j i + 4294967296 ^ i * c = pv M j i + pv l 0 i * f) :
  pv (N.set (j + i) (z4q (nth l i) f (nth N (j + i)) c % 4294967296)) j (i + 1) + 4294967296 ^ (i + 1) * (z4q (nth l i) f (nth N (j + i)) c / 4294967296) = pv M j (i + 1) + pv l 0 (i + 1) * f := by
 have h := Nat.mod_add_div (z4q (nth l i) f (nth N (j + i)) c) 4294967296
 rw [d0q _ _ _ _ hi, v2q, v2q, Nat.zero_add, Nat.pow_succ, ← hsame]
 generalize z4q (nth l i) f (nth N (j + i)) c / 4294967296 = q at *
 generalize z4q (nth l i) f (nth N (j + i)) c % 4294967296 = d at *
 unfold z4q at h
 generalize 4294967296 ^ i = p at *
 have : p * (d + 4294967296 * q) = p * (c + (nth l i * f + nth N (j + i))) := by rw [h]
 grind

theorem z5w (hN : j + l.length < N.length) (hlow : ∀ i, i < j → nth N i = nth M i) 
  (hv : pv N j l.length + 4294967296 ^ l.length * c = pv M j l.length + pv l 0 l.length * nth m j) (ho : pv M 0 (j + l.length) = val l * pv m 0 j) :
  pv (N.set (j + l.length) c) 0 (j + 1 + l.length) = val l * pv m 0 (j + 1) := by
 have e : j + 1 + l.length = j + (l.length + 1) := by omega
 rw [e, o1q, Nat.zero_add, d0q _ _ _ _ hN, hv, y8q rfl, v2q, Nat.zero_add]
 rw [l1q (l := N.set (j + l.length) c) (m := M) (k := j) (off := 0) (fun i hi => by rw [u8q _ _ _ _ (by omega), hlow _ (by omega)])]
 rw [o1q, Nat.zero_add] at ho
 grind

theorem z5x (hu : IsW w u l) (hv : IsW w v m) (hlen : l.length + m.length ≤ 1073741824) (hl0 : 0 < l.length) :
  Calls Tryz.prog 172 #[u, v] w fun e w' => (∃ r, e = .returned r ∧ IsW w' r (q2q (val l * val m)) ∧ (∀ b, r.ownBlock = some b → w.heap.size ≤ b)) ∧ Below w.heap.size w w' := by
 have HU := hdd hu
 have HV := hdd hv
 obtain ⟨a, cap, rfl, h1, h2, h3, h4, h5⟩ := hu
 obtain ⟨b, bcap, rfl, k1, k2, k3, k4, k5⟩ := hv
 have H4 := hdd h4
 have K4 := hdd k4
 clear h3 h4 h5 k3 k4 k5
 go_enter Tryz.func172, Tryz.ntmps172
 go_wp2_with (at_make; refine v3q rfl _ _ _ _ rfl uw t8q (l.length + m.length) rfl rfl hlen ?_; intro w1 hb1 hbel hs1; refine y0q ?_)
 refine z2q ?_
 go_wp2_with fail
 go_loopw [21] (fun i wr => ∃ (j : Nat) (M : List Nat), j ≤ m.length ∧ i = .int .i64 j ∧ Blk wr w.heap.size 125 M ∧ Hi (Ws M) ∧ Hi (M.length = l.length + m.length) ∧ Below w.heap.size w wr ∧
   Hi (pv M 0 (j + l.length) = val l * pv m 0 j)) (fun i _ => m.length - (intOf i).toNat)
 case atStart => exact ⟨0, _, Nat.zero_le _, rfl, hb1, hdd (u4q _), hdd (by simp), hbel, hdd (by rw [o2q, x2q]; simp)⟩
 case round =>
  obtain ⟨j, M, hj, rfl, hM, hMw, hMl, hon, hval⟩ := hrel
  obtain ⟨wo, rfl⟩ : ∃ wo : World, wo = wr := ⟨_, rfl⟩
  by_cases hjm : j < m.length
  ·
   obtain ⟨bb, boff, rfl, hblt, -⟩ := K4.o (by intro e; simp at e; subst e; simp at hjm)
   have hcb0 := HV.o.cell j hjm
   have hcb : wo.cell? ⟨bb, boff + j, none⟩ = some (.int .u32 (nth m j)) := by rw [hon.cell (p := ⟨bb, boff + j, none⟩) hblt]; exact hcb0
   have hf := y1q HV.o.ws j
   clear hcb0
   go_wp2_with fail
   go_loopw [9, 41] (fun c i wr => ∃ (t cr : Nat) (N : List Nat), t ≤ l.length ∧ i = .int .i64 t ∧ c = .int .u64 cr ∧ cr < 4294967296 ∧ Blk wr w.heap.size 125 N ∧ Hi (Ws N) ∧ Hi (N.length = l.length + m.length) ∧ Below w.heap.size w wr ∧
    Hi (∀ x, (x < j ∨ j + t ≤ x) → nth N x = nth M x) ∧ Hi (pv N j t + 4294967296 ^ t * cr = pv M j t + pv l 0 t * nth m j)) (fun _ i _ => l.length - (intOf i).toNat)
   case atStart => exact ⟨0, 0, M, Nat.zero_le _, rfl, rfl, by omega, hM, hMw, hMl, hon, hdd (fun _ _ => rfl), hdd (by simp [x2q])⟩
   case round =>
    obtain ⟨t, cr, N, ht, rfl, rfl, hcr, hN, hNw, hNl, hon2, hsame, hval2⟩ := hrel
    by_cases htl : t < l.length
    ·
     obtain ⟨ab, aoff, rfl, y0q, -⟩ := H4.o (by intro e; simp at e; subst e; simp at htl)
     have hca0 := HU.o.cell t htl
     have hca : wr.cell? ⟨ab, aoff + t, none⟩ = some (.int .u32 (nth l t)) := by rw [hon2.cell (p := ⟨ab, aoff + t, none⟩) y0q]; exact hca0
     have hx := y1q HU.o.ws t
     have hy := y1q hNw.o (j + t)
     have hcN := hN.cell (j + t) (by have := hNl.o; omega)
     have hfree := hN.free (j + t)
     have w1 := d9q hx hf
     have w2 := z5k hx hf hy
     have w3 := o0q hx hf hy hcr
     have w4 := r0q hx hf hy hcr
     clear hca0 hcb
     go_wp2_with fail
     go_roundw
     case rel =>
      exact ⟨t + 1, z4q (nth l t) (nth m j) (nth N (j + t)) cr / 4294967296, N.set (j + t) (z4q (nth l t) (nth m j) (nth N (j + t)) cr % 4294967296), by omega, by go_num, by go_num, by omega,
       hN.setCell (j + t) _ _ (by unfold U; go_num), hdd (u0q hNw.o _ (by omega)), hdd (by rw [List.length_set]; exact hNl.o), hon2.setCell qm _,
       hdd (fun x hx => by rw [u8q _ _ _ _ (by omega)]; exact hsame.o x (by omega)),
       hdd (z0h (by have := hNl.o; omega) (hsame.o _ (by omega)) hval2.o)⟩
     case measure => simp [intOf]; omega
    ·
     obtain rfl : t = l.length := by omega
     have hfree := hN.free (j + l.length)
     have hcN := hN.cell (j + l.length) (by have := hNl.o; omega)
     clear hcb
     go_wp2_with fail
     go_roundw
     case rel =>
      exact ⟨j + 1, N.set (j + l.length) cr, by omega, by go_num, hN.setCell (j + l.length) _ _ (by unfold U; go_num), hdd (u0q hNw.o _ hcr), hdd (by rw [List.length_set]; exact hNl.o), hon2.setCell qm _,
       hdd (z5w (by have := hNl.o; omega) (fun x hx => hsame.o x (Or.inl hx)) hval2.o hval.o)⟩
     case measure => simp [intOf]; omega
  ·
   obtain rfl : j = m.length := by omega
   have hMv : Hi (val M = val l * val m) := hdd (by
    have h := hval.o
    rw [y8q (by have := hMl.o; omega), y8q rfl] at h
    exact h)
   have hI := hM.isW_all hMw.o (l.length + m.length) (by have := hMl.o; omega) (by have := hMl.o; omega)
   rw [hMl.o] at hI
   have HI := hdd hI
   clear hI
   go_wp2_with fail
   refine (s4q HI.o hMv.o).mono ?_
   rintro en w4 ⟨⟨r, rfl, hr, hown⟩, rfl⟩
   go_wp2_with fail
   go_ret
   refine ⟨⟨r, rfl, hr, fun x hx => ?_⟩, hon⟩
   have := hown x hx
   simp [Value.ownBlock] at this
   omega
theorem u5k {a : Option Addr} (hn : n ≤ k) :
  Calls Tryz.prog 174 #[.slice a n cap, .int .i64 k] w fun e w' => e = .returned (.tuple #[.slice a n cap, .slice none 0 0]) ∧ w = w' := by
 go_enter Tryz.func174, Tryz.ntmps174
 go_wp2
 go_ret2
 exact ⟨rfl, rfl⟩

theorem y5j {b off : Nat} (h : IsW w (.slice (some ⟨b, off, none⟩) l.length cap) l) (hk0 : 0 < k) (hk : k < l.length) :
  Calls Tryz.prog 174 #[.slice (some ⟨b, off, none⟩) l.length cap, .int .i64 k] w fun e w' =>
   (∃ lo hi, e = .returned (.tuple #[lo, hi]) ∧ IsW w lo (q2q (val (l.take k))) ∧ IsW w hi (l.drop k)) ∧ ∃ n, w' = w.drewN n := by
 have h1 := h.len
 have hcap : l.length ≤ cap := by obtain ⟨_, _, hv, h1, _⟩ := h; cases hv; exact h1
 have hT : IsW w (.slice (some ⟨b, off, none⟩) (l.take k).length k) (l.take k) := by
  have e : (l.take k).length = k := by simp; omega
  rw [e]; exact h.take k k (by omega) qm
 have HT := hdd hT
 have H := hdd h
 have hC : ∀ n, Hi (Calls Tryz.prog 150 #[.slice (some ⟨b, off, none⟩) k k] (w.drewN n) fun e w' => e = .returned (.slice (some ⟨b, off, none⟩) (q2q (val (l.take k))).length (q2q (val (l.take k))).length) ∧ w.drewN n = w') := fun n => hdd (by
  have e : (l.take k).length = k := by simp; omega
  have := x1k (HT.o.drewN n)
  rwa [e] at this)
 clear hT h
 go_enter Tryz.func174, Tryz.ntmps174
 go_wp2
 go_quiet ((go_at_call 150; exact q3k (hC _).o))
 go_wp2
 go_ret2
 refine ⟨⟨_, _, rfl, HT.o.trim, ?_⟩, _, rfl⟩
 exact H.o.drop k _ _ (by omega) rfl (by omega)
def v8h (n : Nat) : Prop := ∀ (w : World) (u v : Value) (x y : Nat), IsW w u (q2q x) → IsW w v (q2q y) → (q2q x).length + (q2q y).length ≤ n →
 Calls Tryz.prog 157 #[u, v] w fun e w' => (∃ r, e = .returned r ∧ IsW w' r (q2q (x * y)) ∧ (∀ b, r.ownBlock = some b → w.heap.size ≤ b ∨ u.ownBlock = some b ∨ v.ownBlock = some b)) ∧ Below w.heap.size w w'

theorem y6y (x y P : Nat) : x % P * (y % P) ≤ (x % P + x / P) * (y % P + y / P) ∧ x / P * (y / P) ≤ (x % P + x / P) * (y % P + y / P) - x % P * (y % P) ∧
  x % P * (y % P) + P * P * (x / P * (y / P)) + P * ((x % P + x / P) * (y % P + y / P) - x % P * (y % P) - x / P * (y / P)) = x * y := by
 have h1 := Nat.mod_add_div x P
 have h2 := Nat.mod_add_div y P
 generalize x % P = a at *
 generalize x / P = b at *
 generalize y % P = c at *
 generalize y / P = d at *
 have e : (a + b) * (c + d) = a * c + b * d + (a * d + b * c) := by grind
 rw [e]
 refine ⟨by omega, by omega, ?_⟩
 rw [show a * c + b * d + (a * d + b * c) - a * c - b * d = a * d + b * c by omega, ← h1, ← h2]
 grind

theorem u7v {N : Nat} {L3 L10 L11 : List Nat} (h3 : L3.length = N) (v3 : val L3 = x % 4294967296 ^ half * (y % 4294967296 ^ half)) (h10 : L10.length = L3.length)
  (s10 : ∀ j, (j < 2 * half ∨ 2 * half + (N - 2 * half) ≤ j) → nth L10 j = nth L3 j) (v10 : pv L10 (2 * half) (N - 2 * half) = (pv L3 (2 * half) (N - 2 * half) + val (q2q (x / 4294967296 ^ half * (y / 4294967296 ^ half)))) % 4294967296 ^ (N - 2 * half))
  (h11 : L11.length = L10.length) (s11 : ∀ j, (j < half ∨ half + (N - half) ≤ j) → nth L11 j = nth L10 j)
  (v11 : pv L11 half (N - half) = (pv L10 half (N - half) + val (q2q ((x % 4294967296 ^ half + x / 4294967296 ^ half) * (y % 4294967296 ^ half + y / 4294967296 ^ half) - x % 4294967296 ^ half * (y % 4294967296 ^ half) - x / 4294967296 ^ half * (y / 4294967296 ^ half)))) % 4294967296 ^ (N - half))
  (room : x * y < 4294967296 ^ N) (hN : 2 * half ≤ N) : val L11 = x * y := by
 have hk := (y6y x y (4294967296 ^ half)).2.2
 have hp : 4294967296 ^ (2 * half) = 4294967296 ^ half * 4294967296 ^ half := by rw [← Nat.pow_add]; congr 1; omega
 rw [j6q] at v10 v11
 generalize hm : (x % 4294967296 ^ half + x / 4294967296 ^ half) * (y % 4294967296 ^ half + y / 4294967296 ^ half) - x % 4294967296 ^ half * (y % 4294967296 ^ half) - x / 4294967296 ^ half * (y / 4294967296 ^ half) = mid at *
 have e10 : val L10 = val L3 + 4294967296 ^ (2 * half) * (x / 4294967296 ^ half * (y / 4294967296 ^ half)) :=
  j6w h10 (by omega) s10 v10 (by rw [h3, v3, hp]; omega)
 have e11 : val L11 = val L10 + 4294967296 ^ half * mid := j6w h11 (by omega) s11 v11 (by rw [h10, h3, e10, v3, hp]; omega)
 rw [e11, e10, v3, hp]; omega

theorem u1w {nl nm N : Nat} {lo L5 : List Nat} (hlo : lo = q2q (x % 4294967296 ^ half * y)) (h3 : (lo ++ List.replicate (N - lo.length) 0).length = N) (h5 : L5.length = (lo ++ List.replicate (N - lo.length) 0).length)
  (hs : ∀ j, (j < half ∨ half + (N - half) ≤ j) → nth L5 j = nth (lo ++ List.replicate (N - lo.length) 0) j)
  (hv : pv L5 half (N - half) = (pv (lo ++ List.replicate (N - lo.length) 0) half (N - half) + val (q2q (x / 4294967296 ^ half * y))) % 4294967296 ^ (N - half))
  (hx : x < 4294967296 ^ (q2q x).length) (hy : y < 4294967296 ^ (q2q y).length) (hnl : nl = (q2q x).length) (hnm : nm = (q2q y).length) (hN : nl + nm ≤ N ∧ half ≤ N) : val L5 = x * y := by
 have e0 : val (lo ++ List.replicate (N - lo.length) 0) = x % 4294967296 ^ half * y := by rw [o4q, q2h, hlo, j6q]; simp
 have e1 : x % 4294967296 ^ half * y + 4294967296 ^ half * (x / 4294967296 ^ half * y) = x * y := by
  have := Nat.mod_add_div x (4294967296 ^ half)
  conv => rhs; rw [← this]
  grind
 rw [j6q] at hv
 have hroom : val (lo ++ List.replicate (N - lo.length) 0) + 4294967296 ^ half * (x / 4294967296 ^ half * y) < 4294967296 ^ (lo ++ List.replicate (N - lo.length) 0).length := by
  rw [e0, e1, h3]
  refine Nat.lt_of_lt_of_le (Nat.mul_lt_mul'' hx hy) ?_
  rw [← Nat.pow_add]
  exact Nat.pow_le_pow_right (by omega) (by omega)
 rw [j6w h5 (by omega) hs hv hroom, e0, e1]

theorem z0w (hM : v8h n) {w : World} {u v : Value} {l m : List Nat} {x y : Nat} (hx : l = q2q x) (hy : m = q2q y) (hu : IsW w u l) (hv : IsW w v m) (hle : m.length ≤ l.length) (h128 : 128 ≤ m.length) (hn : l.length + m.length ≤ n + 1) (hbig : l.length + m.length ≤ 536870912) :
  Calls Tryz.prog 173 #[u, v] w fun e w' => (∃ r, e = .returned r ∧ IsW w' r (q2q (x * y)) ∧ (∀ b, r.ownBlock = some b → w.heap.size ≤ b)) ∧ Below w.heap.size w w' := by
 have HX := hdd hx
 have HY := hdd hy
 have HU := hdd hu
 have HV := hdd hv
 obtain ⟨a, cap, rfl, h1, h2, h3, h4, h5⟩ := hu
 obtain ⟨b, bcap, rfl, k1, k2, k3, k4, k5⟩ := hv
 obtain ⟨ab, aoff, rfl, -, -⟩ := h4 (by intro e; simp at e; subst e; simp at hle; subst hle; simp at h128)
 obtain ⟨bb, boff, rfl, -, -⟩ := k4 (by intro e; simp at e; subst e; simp at h128)
 obtain ⟨half, hh⟩ := qx ((l.length + 1) / 2)
 have hh1 : ((l.length : Int) + 1) / 2 = (half : Int) := by omega
 have hh2 : half < l.length := by omega
 have hh3 : 0 < half := by omega
 have hh4 : l.length ≤ half + half := by omega
 have hh5 : half + half ≤ l.length + 1 := by omega
 clear h3 h4 h5 k3 k4 k5 hh hx hy
 go_enter Tryz.func173, Tryz.ntmps173
 go_wp2_with fail
 refine (y5j HU.o hh3 hh2).mono ?_
 rintro en w1 ⟨⟨a0, a1, rfl, ha0, ha1⟩, n1, rfl⟩
 rw [HX.o, j5x] at ha0
 rw [HX.o, q1x] at ha1
 by_cases hlb : m.length ≤ half
 ·
  go_wp2_with fail
  refine (u5k hlb).mono ?_
  rintro en w2 ⟨rfl, rfl⟩
  have HA0 := hdd ha0
  have HA1 := hdd ha1
  have HVd : Hi (IsW w (.slice (some ⟨bb, boff, none⟩) m.length bcap) (q2q y)) := hdd (by rw [← HY.o]; exact HV.o)
  have hL0 : Hi ((q2q (x % 4294967296 ^ half)).length ≤ half ∧ (q2q (x / 4294967296 ^ half)).length = l.length - half ∧ (q2q y).length = m.length) := hdd
   ⟨x0q.2 (Nat.mod_lt _ (Nat.pow_pos (by omega))), by rw [← q1x, ← HX.o, List.length_drop], by rw [← HY.o]⟩
  have hLo : Hi ((q2q (x % 4294967296 ^ half * y)).length ≤ half + m.length) := hdd (by
   have := k2q (x % 4294967296 ^ half) y; have := hL0.o; omega)
  clear ha0 ha1
  go_wp2_with (at_make; refine v3q rfl _ _ _ _ rfl uw t8q (l.length + m.length + 1) rfl rfl (by omega) ?_; intro w1 hb1 hbel hs1; refine y0q ?_)
  refine z2q ?_
  simp only [World.heap_drewN] at hb1 hbel hs1
  replace hbel := f5q hbel
  go_wp2_with fail
  refine (hM w1 _ _ _ _ (HA0.o.below hbel) (HVd.o.below hbel) (by have := hL0.o; omega)).mono ?_
  rintro en w2 ⟨⟨r0, rfl, hr0, hown0⟩, hbel2⟩
  have hb2 := hb1.below hbel2 (by have := hs1.o; omega)
  obtain ⟨lo, hlo⟩ := qx (q2q (x % 4294967296 ^ half * y))
  rw [← hlo] at hr0 hLo
  have HLO := hdd hlo
  have HR0 := hdd hr0
  clear hlo hr0
  go_wp2_with ((with_reducible refine j0k ?_); refine m7q rfl (.tmp 40) (.tmp 41) _ _ rfl _ uw v0k _ 0 _ _ _ lo _ _ rfl rfl HR0.o hb2 (by have := hLo.o; omega) (by have := hLo.o; simp; omega) ?_; intro w3 hb3 hon3; refine y0q ?_)
  refine z2q ?_
  rw [q3v] at hb3
  have hz : b8q [] = true := rfl
  go_wp2_with fail
  refine (t7q (IsW.nil _)).mono ?_
  rintro en w3 ⟨rfl, rfl⟩
  go_wp2_with fail
  have hA1 := ((HA1.o.below hbel).below hbel2).only0 hon3 (HA1.o.own_ne qm)
  have hV3 := ((HVd.o.below hbel).below hbel2).only0 hon3 (HVd.o.own_ne qm)
  have hC := hdd (hM w3.drew _ _ _ _ hA1 hV3 (by have := hL0.o; omega))
  clear hA1 hV3
  have hlen3 : Hi ((lo ++ List.replicate (l.length + m.length + 1 - lo.length) 0).length = l.length + m.length + 1) := hdd (by have := hLo.o; simp; omega)
  have hsz3 : Hi (w.heap.size < w3.heap.size) := hdd (by have := hb3.lt; omega)
  have hws3 : Hi (Ws (lo ++ List.replicate (l.length + m.length + 1 - lo.length) 0)) := hdd (q9y (by rw [HLO.o]; exact s5q _) (u4q _))
  have hneA := hdd (HA1.o.own_ne (Nat.le_refl w.heap.size))
  have hneV := hdd (HVd.o.own_ne (Nat.le_refl w.heap.size))
  go_region_with (first | (go_at_call 157; refine hC.o.mono ?_; rintro en w4 ⟨⟨r1, rfl, hr1, hown1⟩, hbel4⟩) | (go_at_call 168; refine (c2q (hb3.below (u2q hbel4) hsz3.o) hws3.o (by have := hlen3.o; omega) (by have := hlen3.o; omega) hr1 (z8y hown1 hsz3.o hneA.o hneV.o z7h z8j)).mono ?_; rintro en w5 ⟨rfl, L5, hb5, hw5, hl5, hon5, hs5, hv5⟩))
  all_goals
   have hfin : Hi (val L5 = x * y) := hdd (u1w HLO.o hlen3.o hl5 hs5 hv5 (k5q x) (k5q y) (by rw [← HX.o]) (by rw [← HY.o]) ⟨by omega, by omega⟩)
   have HL5 := hdd hl5
   clear hl5 hs5 hv5
   have hI := hb5.isW_all hw5 (l.length + m.length + 1) (by have := HL5.o; have := hlen3.o; omega) (by have := HL5.o; have := hlen3.o; omega)
   rw [HL5.o, hlen3.o] at hI
   have HI := hdd hI
   clear hI
   go_wp2_with fail
   refine (s4q HI.o hfin.o).mono ?_
   rintro en w6 ⟨⟨r, rfl, hr, hown⟩, rfl⟩
   go_wp2_with fail
   go_ret
   refine ⟨⟨r, rfl, hr, fun z hz => ?_⟩, ?_⟩
   ·
    have := hown z hz
    simp [Value.ownBlock] at this
    omega
   ·
    exact q4q (q0q (q4q (q0q hbel hbel2) hon3 qm) (u2q hbel4)) hon5 qm
 ·
  have hlb' : half < m.length := by omega
  have HA0 := hdd ha0
  have HA1 := hdd ha1
  clear ha0 ha1 hlb
  go_wp2_with fail
  refine (y5j (HV.o.drewN n1) hh3 hlb').mono ?_
  rintro en w2 ⟨⟨b0, b1, rfl, hb0, hb1⟩, n2, rfl⟩
  rw [HY.o, j5x] at hb0
  rw [HY.o, q1x] at hb1
  have HB0 : Hi (IsW w b0 (q2q (y % 4294967296 ^ half))) := hdd hb0
  have HB1 : Hi (IsW w b1 (q2q (y / 4294967296 ^ half))) := hdd hb1
  clear hb0 hb1
  have hL0 : Hi ((q2q (x % 4294967296 ^ half)).length ≤ half ∧ (q2q (x / 4294967296 ^ half)).length = l.length - half ∧ (q2q (y % 4294967296 ^ half)).length ≤ half ∧ (q2q (y / 4294967296 ^ half)).length = m.length - half) := hdd
   ⟨x0q.2 (Nat.mod_lt _ (Nat.pow_pos (by omega))), by rw [← q1x, ← HX.o, List.length_drop], x0q.2 (Nat.mod_lt _ (Nat.pow_pos (by omega))), by rw [← q1x, ← HY.o, List.length_drop]⟩
  have hLo : Hi ((q2q (x % 4294967296 ^ half * (y % 4294967296 ^ half))).length ≤ half + half) := hdd (by
   have := k2q (x % 4294967296 ^ half) (y % 4294967296 ^ half); have := hL0.o; omega)
  go_wp2_with (at_make; refine v3q rfl _ _ _ _ rfl uw t8q (l.length + m.length + 1) rfl rfl (by omega) ?_; intro w1 hb1 hbel hs1; refine y0q ?_)
  refine z2q ?_
  simp only [World.heap_drewN] at hb1 hbel hs1
  replace hbel := f5q hbel
  try replace hbel := f5q hbel
  go_wp2_with fail
  refine (hM w1 _ _ _ _ (HA0.o.below hbel) (HB0.o.below hbel) (by have := hL0.o; omega)).mono ?_
  rintro en w2 ⟨⟨r0, rfl, hr0, hown0⟩, hbel2⟩
  have hb2 := hb1.below hbel2 (by have := hs1.o; omega)
  obtain ⟨lo, hlo⟩ := qx (q2q (x % 4294967296 ^ half * (y % 4294967296 ^ half)))
  rw [← hlo] at hr0 hLo
  have HLO := hdd hlo
  have HR0 := hdd hr0
  clear hlo hr0
  go_wp2_with ((with_reducible refine j0k ?_); refine m7q rfl (.tmp 40) (.tmp 41) _ _ rfl _ uw v0k _ 0 _ _ _ lo _ _ rfl rfl HR0.o hb2 (by have := hLo.o; omega) (by have := hLo.o; simp; omega) ?_; intro w3 hb3 hon3; refine y0q ?_)
  refine z2q ?_
  rw [q3v] at hb3
  have hsz3 : Hi (w.heap.size < w3.heap.size) := hdd (by have := hb3.lt; omega)
  have nA0 := hdd (HA0.o.own_ne (Nat.le_refl w.heap.size))
  have nA1 := hdd (HA1.o.own_ne (Nat.le_refl w.heap.size))
  have nB0 := hdd (HB0.o.own_ne (Nat.le_refl w.heap.size))
  have nB1 := hdd (HB1.o.own_ne (Nat.le_refl w.heap.size))
  have nR0 := hdd (z8y (lr := q2q (x % 4294967296 ^ half * (y % 4294967296 ^ half))) hown0 (by have := hs1.o; omega) nA0.o nB0.o z7h z8j)
  have A0 := hdd (((HA0.o.below hbel).below hbel2).only0 hon3 nA0.o)
  have A1 := hdd (((HA1.o.below hbel).below hbel2).only0 hon3 nA1.o)
  have B0 := hdd (((HB0.o.below hbel).below hbel2).only0 hon3 nB0.o)
  have B1 := hdd (((HB1.o.below hbel).below hbel2).only0 hon3 nB1.o)
  have R0 := hdd (HR0.o.only0 hon3 (by rw [HLO.o]; exact nR0.o))
  have hbW := hdd (q4q (q0q hbel hbel2) hon3 qm)
  have hz : g7q (y / 4294967296 ^ half) = false := f2q (fun e => by
   have h := hL0.o.2.2.2; rw [e, y7q] at h; simp at h; omega)
  clear hown0 hbel hbel2 hon3 hs1 hb1 hb2 HA0 HA1 HB0 HB1 HR0
  go_wp2_with fail
  refine (h5q B1.o).mono ?_
  rintro en w3' ⟨rfl, rfl⟩
  go_wp2_with fail
  refine (hM w3 _ _ _ _ A1.o B1.o (by have := hL0.o; omega)).mono ?_
  rintro en w4 ⟨⟨r1, rfl, hr1, hown1⟩, hbel4⟩
  have nR1 := hdd (z8y (lr := q2q (x / 4294967296 ^ half * (y / 4294967296 ^ half))) hown1 hsz3.o nA1.o nB1.o z7h z8j)
  have R1 := hdd hr1
  clear hown1 hr1
  go_wp2_with fail
  refine (v9v (A0.o.below hbel4) (A1.o.below hbel4) (by have := hL0.o; omega) (by have := hL0.o; omega)).mono ?_
  rintro en w5 ⟨⟨r2, rfl, hr2, -⟩, hbel5⟩
  have R2 := hdd hr2
  clear hr2
  have hbel35 := q0q hbel4 hbel5
  go_wp2_with fail
  refine (v9v (B0.o.below hbel35) (B1.o.below hbel35) (by have := hL0.o; omega) (by have := hL0.o; omega)).mono ?_
  rintro en w6 ⟨⟨r3, rfl, hr3, -⟩, hbel6⟩
  have R3 := hdd hr3
  clear hr3
  have hLs : Hi ((q2q (x % 4294967296 ^ half + x / 4294967296 ^ half)).length ≤ half + 1 ∧ (q2q (y % 4294967296 ^ half + y / 4294967296 ^ half)).length ≤ half + 1) := hdd
   ⟨i9q _ _ _ (by have := hL0.o; omega) (by have := hL0.o; omega), i9q _ _ _ (by have := hL0.o; omega) (by have := hL0.o; omega)⟩
  go_wp2_with fail
  refine (hM w6 _ _ _ _ (R2.o.below hbel6) R3.o (by have := hLs.o; omega)).mono ?_
  rintro en w7 ⟨⟨r4, rfl, hr4, -⟩, hbel7⟩
  have R4 := hdd hr4
  clear hr4
  have hbel37 := q0q (q0q hbel35 hbel6) hbel7
  have hK := hdd (y6y x y (4294967296 ^ half))
  have R0_7 := R0.o.below hbel37
  rw [HLO.o] at R0_7
  have HR07 := hdd R0_7
  clear R0_7
  go_wp2_with fail
  refine (y3v R4.o HR07.o hK.out.1).mono ?_
  rintro en w8 ⟨⟨r5, rfl, hr5, -⟩, hbel8⟩
  have R5 := hdd hr5
  clear hr5
  have hbel48 := q0q (q0q (q0q hbel5 hbel6) hbel7) hbel8
  go_wp2_with fail
  refine (y3v R5.o (R1.o.below hbel48) hK.out.2.1).mono ?_
  rintro en w9 ⟨⟨r6, rfl, hr6, hown6⟩, hbel9⟩
  have hbel39 := q0q (q0q hbel37 hbel8) hbel9
  have hb9 := hb3.below hbel39 hsz3.o
  have R6 := hdd hr6
  have nR6 : Hi (r6.ownBlock ≠ some w.heap.size) := hdd (fun e => by have := hown6 _ e; have := (q0q hbel37 hbel8).size; have := hsz3.o; omega)
  have R1_9 := hdd (R1.o.below (q0q hbel48 hbel9))
  clear hr6 hown6
  have hlen3 : Hi ((lo ++ List.replicate (l.length + m.length + 1 - lo.length) 0).length = l.length + m.length + 1) := hdd (by have := hLo.o; simp; omega)
  have hws3 : Hi (Ws (lo ++ List.replicate (l.length + m.length + 1 - lo.length) 0)) := hdd (q9y (by rw [HLO.o]; exact s5q _) (u4q _))
  have hv3 : Hi (val (lo ++ List.replicate (l.length + m.length + 1 - lo.length) 0) = x % 4294967296 ^ half * (y % 4294967296 ^ half)) := hdd (by rw [o4q, q2h, HLO.o, j6q]; simp)
  obtain ⟨L3, hL3⟩ := qx (lo ++ List.replicate (l.length + m.length + 1 - lo.length) 0)
  rw [← hL3] at hb9 hlen3 hws3 hv3
  clear hL3 hb3
  go_wp2_with fail
  refine (c2q hb9 hws3.o (by have := hlen3.o; omega) (by have := hlen3.o; omega) R1_9.o nR1.o).mono ?_
  rintro en w10 ⟨rfl, L10, hb10, hw10, hl10, hon10, hs10, hv10⟩
  have R6_10 := hdd (R6.o.only hon10 nR6.o)
  have HW10 := hdd hw10
  have HL10 := hdd hl10
  have HS10 := hdd hs10
  have HV10 := hdd hv10
  clear hw10 hl10 hs10 hv10
  go_wp2_with fail
  refine (c2q hb10 HW10.o (by have := hlen3.o; have := HL10.o; omega) (by have := hlen3.o; have := HL10.o; omega) R6_10.o (fun _ => nR6.o)).mono ?_
  rintro en w11 ⟨rfl, L11, hb11, hw11, hl11, hon11, hs11, hv11⟩
  have hroom : x * y < 4294967296 ^ (l.length + m.length + 1) := by
   refine Nat.lt_of_lt_of_le (Nat.mul_lt_mul'' (k5q x) (k5q y)) ?_
   rw [← Nat.pow_add, ← HX.o, ← HY.o]
   exact Nat.pow_le_pow_right (by omega) (by omega)
  have hfin : Hi (val L11 = x * y) := hdd (u7v hlen3.o hv3.o HL10.o HS10.o HV10.o hl11 hs11 hv11 hroom (by omega))
  have HL11 : Hi (L11.length = l.length + m.length + 1) := hdd (by rw [hl11, HL10.o, hlen3.o])
  have hI := hb11.isW_all hw11 (l.length + m.length + 1) (by have := HL11.o; omega) (by have := HL11.o; omega)
  rw [HL11.o] at hI
  have HI := hdd hI
  clear hI hl11 hs11 hv11 hw11 hroom
  go_wp2_with fail
  refine (s4q HI.o hfin.o).mono ?_
  rintro en w12 ⟨⟨r, rfl, hr, hown⟩, rfl⟩
  go_wp2_with fail
  go_ret
  refine ⟨⟨r, rfl, hr, fun z hz => ?_⟩, ?_⟩
  ·
   have := hown z hz
   simp [Value.ownBlock] at this
   omega
  ·
   exact q4q (q4q (q5v hbW.o hbel39 (Nat.le_of_lt hsz3.o)) hon10 qm) hon11 qm
theorem y6k (hM : ∀ k, n = k + 1 → v8h k) (hbig : n ≤ 536870912) : v8h n := by
 intro w u v x y hu hv hlen
 have HX := hdd hu
 have HY := hdd hv
 obtain ⟨l, hl⟩ := qx (q2q x)
 obtain ⟨m, hm⟩ := qx (q2q y)
 rw [← hl] at hu
 rw [← hm] at hv
 rw [← hl, ← hm] at hlen
 have HU := hdd hu
 have HV := hdd hv
 have HL := hdd hl
 have HMm := hdd hm
 obtain ⟨a, cap, rfl, h1, h2, h3, h4, h5⟩ := hu
 obtain ⟨b, bcap, rfl, k1, k2, k3, k4, k5⟩ := hv
 have HLEN := hdd hlen
 have HBIG := hdd hbig
 clear h3 h4 h5 k3 k4 k5 hl hm hlen hbig
 by_cases hsw : l.length < m.length
 ·
  by_cases hz : x = 0
  ·
   have hz1 := q2k hz
   have HZ := hdd hz
   clear hz
   go_enter Tryz.func157, Tryz.ntmps157
   go_wp2_with fail
   refine (h5q HX.o).mono ?_
   rintro en w1 ⟨rfl, rfl⟩
   go_wp2_with fail
   go_ret
   refine ⟨⟨.slice none 0 0, rfl, ?_, by simp [Value.ownBlock]⟩, Below.refl _ _⟩
   rw [HZ.o, Nat.zero_mul, y7q]
   exact IsW.nil _
  ·
   have hz1 := f2q hz
   have HZ := hdd hz
   clear hz
   by_cases ho : x = 1
   ·
    have ho1 := j7v ho
    have HO := hdd ho
    clear ho
    go_enter Tryz.func157, Tryz.ntmps157
    go_wp2_with fail
    refine (h5q HX.o).mono ?_
    rintro en w1 ⟨rfl, rfl⟩
    go_wp2_with fail
    refine (p4q HX.o).mono ?_
    rintro en w1 ⟨rfl, rfl⟩
    go_wp2_with fail
    go_ret
    refine ⟨⟨_, rfl, ?_, fun b hb => Or.inr (Or.inr hb)⟩, Below.refl _ _⟩
    rw [HO.o, Nat.one_mul]
    exact HY.o
   ·
    have ho1 := j4y ho
    clear ho
    by_cases h128 : l.length < 128
    ·
     have hd : decide ((l.length : Int) < 128) = true := by simp; omega
     have H128 := hdd h128
     clear h128
     go_enter Tryz.func157, Tryz.ntmps157
     go_wp2_with fail
     refine (h5q HX.o).mono ?_
     rintro en w1 ⟨rfl, rfl⟩
     go_wp2_with fail
     refine (p4q HX.o).mono ?_
     rintro en w1 ⟨rfl, rfl⟩
     go_wp2_with fail
     refine (z5x HV.o HU.o (by have := HLEN.o; have := HBIG.o; omega) (by omega)).mono ?_
     rintro en w1 ⟨⟨r, rfl, hr, hown⟩, hbel⟩
     rw [HL.o, HMm.o, j6q, j6q] at hr
     go_wp2_with fail
     go_ret
     exact ⟨⟨r, rfl, by rw [Nat.mul_comm]; exact hr, fun b hb => Or.inl (hown b hb)⟩, hbel⟩
    ·
     obtain ⟨k, rfl⟩ : ∃ k, n = k + 1 := ⟨n - 1, by have := HLEN.o; omega⟩
     have hMk := hM k rfl
     have hd : decide ((l.length : Int) < 128) = false := by simp; omega
     have H128 := hdd h128
     clear hM h128
     go_enter Tryz.func157, Tryz.ntmps157
     go_wp2_with fail
     refine (h5q HX.o).mono ?_
     rintro en w1 ⟨rfl, rfl⟩
     go_wp2_with fail
     refine (p4q HX.o).mono ?_
     rintro en w1 ⟨rfl, rfl⟩
     go_wp2_with fail
     refine (z0w hMk HMm.o HL.o HV.o HU.o (by omega) (by have := H128.o; omega) (by have := HLEN.o; omega) (by have := HLEN.o; have := HBIG.o; omega)).mono ?_
     rintro en w1 ⟨⟨r, rfl, hr, hown⟩, hbel⟩
     go_wp2_with fail
     go_ret
     exact ⟨⟨r, rfl, by rw [Nat.mul_comm]; exact hr, fun b hb => Or.inl (hown b hb)⟩, hbel⟩
 ·
  by_cases hz : y = 0
  ·
   have hz1 := q2k hz
   have HZ := hdd hz
   clear hz
   go_enter Tryz.func157, Tryz.ntmps157
   go_wp2_with fail
   refine (h5q HY.o).mono ?_
   rintro en w1 ⟨rfl, rfl⟩
   go_wp2_with fail
   go_ret
   refine ⟨⟨.slice none 0 0, rfl, ?_, by simp [Value.ownBlock]⟩, Below.refl _ _⟩
   rw [HZ.o, Nat.mul_zero, y7q]
   exact IsW.nil _
  ·
   have hz1 := f2q hz
   have hy0 : Hi (0 < m.length) := hdd (by
    rw [HMm.o]; exact List.length_pos_iff.2 (fun e => hz (l9q.1 e)))
   have HZ := hdd hz
   clear hz
   by_cases ho : y = 1
   ·
    have ho1 := j7v ho
    have HO := hdd ho
    clear ho
    go_enter Tryz.func157, Tryz.ntmps157
    go_wp2_with fail
    refine (h5q HY.o).mono ?_
    rintro en w1 ⟨rfl, rfl⟩
    go_wp2_with fail
    refine (p4q HY.o).mono ?_
    rintro en w1 ⟨rfl, rfl⟩
    go_wp2_with fail
    go_ret
    refine ⟨⟨_, rfl, ?_, fun b hb => Or.inr (Or.inl hb)⟩, Below.refl _ _⟩
    rw [HO.o, Nat.mul_one]
    exact HX.o
   ·
    have ho1 := j4y ho
    clear ho
    by_cases h128 : m.length < 128
    ·
     have hd : decide ((m.length : Int) < 128) = true := by simp; omega
     have H128 := hdd h128
     clear h128
     go_enter Tryz.func157, Tryz.ntmps157
     go_wp2_with fail
     refine (h5q HY.o).mono ?_
     rintro en w1 ⟨rfl, rfl⟩
     go_wp2_with fail
     refine (p4q HY.o).mono ?_
     rintro en w1 ⟨rfl, rfl⟩
     go_wp2_with fail
     refine (z5x HU.o HV.o (by have := HLEN.o; have := HBIG.o; omega) (by have := hy0.o; omega)).mono ?_
     rintro en w1 ⟨⟨r, rfl, hr, hown⟩, hbel⟩
     rw [HL.o, HMm.o, j6q, j6q] at hr
     go_wp2_with fail
     go_ret
     exact ⟨⟨r, rfl, hr, fun b hb => Or.inl (hown b hb)⟩, hbel⟩
    ·
     obtain ⟨k, rfl⟩ : ∃ k, n = k + 1 := ⟨n - 1, by have := HLEN.o; omega⟩
     have hMk := hM k rfl
     have hd : decide ((m.length : Int) < 128) = false := by simp; omega
     have H128 := hdd h128
     clear hM h128
     go_enter Tryz.func157, Tryz.ntmps157
     go_wp2_with fail
     refine (h5q HY.o).mono ?_
     rintro en w1 ⟨rfl, rfl⟩
     go_wp2_with fail
     refine (p4q HY.o).mono ?_
     rintro en w1 ⟨rfl, rfl⟩
     go_wp2_with fail
     refine (z0w hMk HL.o HMm.o HU.o HV.o (by omega) (by have := H128.o; omega) (by have := HLEN.o; omega) (by have := HLEN.o; have := HBIG.o; omega)).mono ?_
     rintro en w1 ⟨⟨r, rfl, hr, hown⟩, hbel⟩
     go_wp2_with fail
     go_ret
     exact ⟨⟨r, rfl, hr, fun b hb => Or.inl (hown b hb)⟩, hbel⟩

theorem g1k (n : Nat) : n ≤ 536870912 → v8h n := by
 induction n with
 | zero => intro h; exact y6k (fun k hk => by omega) h
 | succ n ih => intro h; exact y6k (fun k hk => by cases hk; exact ih (by omega)) h

theorem j9k (hu : IsW w u (q2q x)) (hv : IsW w v (q2q y)) (hlen : (q2q x).length + (q2q y).length ≤ 536870912) :
  Calls Tryz.prog 157 #[u, v] w fun e w' => (∃ r, e = .returned r ∧ IsW w' r (q2q (x * y)) ∧ (∀ b, r.ownBlock = some b → w.heap.size ≤ b ∨ u.ownBlock = some b ∨ v.ownBlock = some b)) ∧ Below w.heap.size w w' :=
 g1k _ qm w u v x y hu hv hlen
end Go.Proofs.YtkkbmlkpgknhgaaGreat
