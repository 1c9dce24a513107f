import Derived.Test.YtkkbmlkpgknhgaaGreatZ7
import Derived.Test.YtkkbmlkpgknhgaaGreatZ5
set_option maxRecDepth 100000
set_option maxHeartbeats 16000000
namespace Go.Proofs.YtkkbmlkpgknhgaaGreat
open Go.RowKit
variable {M N l m : List Nat} {a : Option Addr} {by_ c cap cr f j k n s x y : Nat} {u v : Value} {w : World}
theorem us : Tryz.prog.underlying 41 = some (.slice 125) := Tryz.underlying41

theorem IsW.trimc (h : IsW w (.slice a l.length cap) l) : IsW w (.slice a (q2q (val l)).length cap) (q2q (val l)) := by
 have hw := h.ws
 have hle := j7j hw
 have e := q9w hw
 have hc : l.length ≤ cap := by obtain ⟨a', cap', hv, h1, -⟩ := h; cases hv; exact h1
 have := h.take (q2q (val l)).length cap hle (by omega)
 rwa [← e] at this

theorem g3v (h : IsW w (.slice a l.length cap) l) :
  Calls Tryz.prog 121 #[.slice a l.length cap] w fun e w' => e = .returned (.slice a (q2q (val l)).length cap) ∧ w = w' := by
 obtain ⟨a', cap', hv, h1, h2, h3, h4, h5⟩ := id h
 cases hv
 have H4 := hdd h4
 have H := hdd h
 clear h h4 h5
 go_enter Tryz.func121, Tryz.ntmps121
 go_wp2
 go_loop [3] (fun n => ∃ k : Nat, k ≤ l.length ∧ n = .int .i64 k ∧ Hi (val (l.take k) = val l)) (fun n => (intOf n).toNat)
 case atStart => exact ⟨l.length, Nat.le_refl _, rfl, hdd (by rw [List.take_length])⟩
 case round =>
  obtain ⟨k, hk, rfl, hv⟩ := hrel
  by_cases hk0 : 0 < k
  ·
   obtain ⟨b, off, rfl, hlt, hc0⟩ := H4.o (by intro e; simp at e; subst e; simp at hk; omega)
   have hc := H.o.cell (k - 1) (by omega)
   clear hc0
   by_cases hz : nth l (k - 1) = 0
   ·
    have hz' : ((nth l (k - 1) : Int) == 0) = true := by simp [hz]
    have hzH := hdd hz
    clear hz
    go_wp2
    go_round
    case rel =>
     refine ⟨k - 1, by omega, by go_num, hdd ?_⟩
     rw [← hv.o, show k = k - 1 + 1 from by omega, d4q, Nat.add_sub_cancel, hzH.o]
     simp
    case measure => simp [intOf]; omega
   ·
    have hz' : ((nth l (k - 1) : Int) == 0) = false := by simp [hz]
    have hzH := hdd hz
    clear hz
    go_wp2
    go_ret
    exact ⟨by rw [q8z h3 hk (Or.inr hzH.o) hv.o, List.length_take, Nat.min_eq_left hk]; rfl, rfl⟩
  ·
   have hk0' : k = 0 := by omega
   subst hk0'
   go_wp2
   go_ret
   exact ⟨by rw [q8z h3 hk (Or.inl rfl) hv.o]; rfl, rfl⟩

theorem c8q (h : IsW w v l) (hx : val l = x) :
  Calls Tryz.prog 121 #[v] w fun e w' => (∃ v', e = .returned v' ∧ IsW w v' (q2q x) ∧ (∀ b, v'.ownBlock = some b → v.ownBlock = some b)) ∧ w = w' := by
 subst hx
 obtain ⟨a, cap, rfl, h1, h2, h3, h4, h5⟩ := id h
 refine (g3v h).mono ?_
 rintro e w' ⟨rfl, rfl⟩
 exact ⟨⟨_, rfl, h.trimc, fun b hb => by
  cases a with
  | none => simp [Value.ownBlock] at hb
  | some x => simpa [Value.ownBlock] using hb⟩, rfl⟩

theorem x6x (hu : IsW w u l) (hv : IsW w v m) (hl : n8q l) (hm : n8q m) :
  Calls Tryz.prog 94 #[u, v] w fun e w' => e = .returned (.int .i64 (u3q (val l) (val m))) ∧ (∃ n, w' = w.drewN n) := by
 obtain ⟨a, cap, rfl, h1, h2, h3, h4, h5⟩ := id hu
 obtain ⟨b, bcap, rfl, k1, k2, k3, k4, k5⟩ := id hv
 have H4 := hdd h4
 have K4 := hdd k4
 have HU := hdd hu
 have HV := hdd hv
 clear h4 k4 h5 k5 hu hv
 by_cases hlen : l.length = m.length
 ·
  have hlen' : ((l.length : Int) != (m.length : Int)) = false := by simp [hlen]
  have HL := hdd hlen
  clear hlen
  go_enter Tryz.func94, Tryz.ntmps94
  go_wp2
  go_loopw [5] (fun i wr => ∃ k : Nat, k ≤ l.length ∧ i = .int .i64 ((k : Int) - 1) ∧ Hi (l.drop k = m.drop k) ∧ ∃ n, wr = w.drewN n) (fun i _ => (intOf i + 1).toNat)
  case atStart => exact ⟨l.length, Nat.le_refl _, rfl, hdd (by rw [List.drop_length, HL.o, List.drop_length]), 0, rfl⟩
  case round =>
   obtain ⟨k, hk, rfl, hd, n, rfl⟩ := hrel
   by_cases hk0 : 0 < k
   ·
    obtain ⟨b1, off1, rfl, -, -⟩ := H4.o (by intro e; simp at e; subst e; simp at hk; omega)
    have hml : k ≤ m.length := by have := HL.o; omega
    obtain ⟨b2, off2, rfl, -, -⟩ := K4.o (by intro e; simp at e; subst e; simp at hml; omega)
    have hc1 := HU.o.cell (k - 1) (by omega)
    have hc2 := HV.o.cell (k - 1) (by have := HL.o; omega)
    have hcmp := hdd (z9h (k := k - 1) h3 k3 HL.o (by omega) (by rw [Nat.sub_add_cancel hk0]; exact hd.o))
    rcases Nat.lt_trichotomy (nth l (k - 1)) (nth m (k - 1)) with hlt | heq | hgt
    ·
     have hr : u3q (val l) (val m) = -1 := by unfold u3q; rw [if_pos (hcmp.o.1 hlt)]
     have HR := hdd hr
     have hne : ((nth l (k - 1) : Int) != (nth m (k - 1) : Int)) = true := by simp; omega
     clear hr
     go_wp2
     go_quiet (fail)
     go_wp2
     go_quiet (fail)
     go_wp2
     go_ret
     exact ⟨g4q (by rw [HR.o]), _, by simp only [World.drewN_drewN]; rfl⟩
    ·
     have hd' : Hi (l.drop (k - 1) = m.drop (k - 1)) := hdd (by
      have e1 : k - 1 + 1 = k := by omega
      rw [List.drop_eq_getElem_cons (show k - 1 < l.length by omega), List.drop_eq_getElem_cons (show k - 1 < m.length by omega), e1, hd.o, ← r1q, ← r1q, heq])
     have hne : ((nth l (k - 1) : Int) != (nth m (k - 1) : Int)) = false := by simp [heq]
     clear heq
     go_wp2
     go_quiet (fail)
     go_wp2
     go_roundw
     case rel => exact ⟨k - 1, by omega, by go_num, hd', _, rfl⟩
     case measure => simp [intOf]; omega
    ·
     have hr : u3q (val l) (val m) = 1 := by unfold u3q; rw [if_neg (by have := hcmp.o.2 hgt; omega), if_pos (hcmp.o.2 hgt)]
     have HR := hdd hr
     clear hr
     have hge : ¬ nth l (k - 1) < nth m (k - 1) := by omega
     have hne : ((nth l (k - 1) : Int) != (nth m (k - 1) : Int)) = true := by simp; omega
     go_wp2
     go_quiet (fail)
     go_wp2
     go_quiet (fail)
     go_wp2
     go_ret
     exact ⟨g4q (by rw [HR.o]), _, by simp only [World.drewN_drewN]; rfl⟩
   ·
    have hk0' : k = 0 := by omega
    subst hk0'
    go_wp2
    go_ret
    refine ⟨g4q ?_, _, rfl⟩
    have : l = m := by simpa using hd.o
    rw [this]; simp [u3q]
 ·
  have hlen' : ((l.length : Int) != (m.length : Int)) = true := by simp; omega
  by_cases h : l.length < m.length
  ·
   have hr : u3q (val l) (val m) = -1 := by
    have := e6q h3 hm (by rintro rfl; simp at h) h
    unfold u3q; rw [if_pos this]
   have HR := hdd hr
   clear hr hlen
   go_enter Tryz.func94, Tryz.ntmps94
   go_wp2
   go_ret
   exact ⟨g4q (by rw [HR.o]), 0, rfl⟩
  ·
   have hlt : m.length < l.length := by omega
   have hr : u3q (val l) (val m) = 1 := by
    have := e6q k3 hl (by rintro rfl; simp at hlt) hlt
    unfold u3q; rw [if_neg (by omega), if_pos this]
   have HR := hdd hr
   clear hr hlen
   go_enter Tryz.func94, Tryz.ntmps94
   go_wp2
   go_ret
   exact ⟨g4q (by rw [HR.o]), 0, rfl⟩

theorem q0j (hu : IsW w u (q2q x)) (hv : IsW w v (q2q y)) :
  Calls Tryz.prog 94 #[u, v] w fun e w' => e = .returned (.int .i64 (u3q x y)) ∧ (∃ n, w' = w.drewN n) := by
 have := x6x hu hv (n0q _) (n0q _)
 rwa [j6q, j6q] at this
theorem h9q {a : Int} (h : a = (n : Int)) (hn : n < 18446744073709551616) : bits .and .u64 a 4294967295 = (j0q n : Int) := by rw [h]; exact l0q n hn

def u9q (cr x y : Nat) : Nat := cr + x + y
theorem y2j (hk : k < M.length) (hv : pv M 0 k + 4294967296 ^ k * cr = pv l 0 k + pv m 0 k) :
  pv (M.set k (j0q (u9q cr (nth l k) (nth m k)))) 0 (k + 1) + 4294967296 ^ (k + 1) * (u9q cr (nth l k) (nth m k) / 4294967296) = pv l 0 (k + 1) + pv m 0 (k + 1) := by
 have h := Nat.mod_add_div (u9q cr (nth l k) (nth m k)) 4294967296
 have e := d0q M 0 k (j0q (u9q cr (nth l k) (nth m k))) (by omega)
 rw [Nat.zero_add] at e
 rw [e, v2q l, v2q m, Nat.zero_add, Nat.pow_succ]
 unfold j0q
 generalize u9q cr (nth l k) (nth m k) / 4294967296 = q at *
 generalize u9q cr (nth l k) (nth m k) % 4294967296 = d at *
 unfold u9q at h
 generalize 4294967296 ^ k = p at *
 have : p * (d + 4294967296 * q) = p * (cr + nth l k + nth m k) := by rw [h]
 grind

theorem y7v (hl : Ws l) (hm : Ws m) (h1 : l.length ≤ n) (h2 : m.length ≤ n) (hlen : M.length = n + 1) (hv : pv M 0 (n + 1) + 4294967296 ^ (n + 1) * cr = pv l 0 (n + 1) + pv m 0 (n + 1)) : val M = val l + val m := by
 rw [y8q hlen, w4q (by omega), w4q (by omega)] at hv
 have a1 := m0q hl
 have a2 := m0q hm
 have b1 : 4294967296 ^ l.length ≤ 4294967296 ^ n := Nat.pow_le_pow_right (by omega) h1
 have b2 : 4294967296 ^ m.length ≤ 4294967296 ^ n := Nat.pow_le_pow_right (by omega) h2
 rw [Nat.pow_succ] at hv
 generalize 4294967296 ^ n = p at *
 generalize 4294967296 ^ l.length = p1 at *
 generalize 4294967296 ^ m.length = p2 at *
 rcases Nat.eq_zero_or_pos cr with h0 | h0
 ·
  rw [h0, Nat.mul_zero, Nat.add_zero] at hv; exact hv
 ·
  have h5 := Nat.mul_le_mul_left (p * 4294967296) h0
  have h7 : p * 4294967296 * 1 ≤ p * 4294967296 * cr := h5
  rw [Nat.mul_one] at h7
  omega

theorem g3z (hu : IsW w u l) (hv : IsW w v m) (hl : l.length < 1073741824) (hm : m.length < 1073741824) :
  Calls Tryz.prog 160 #[u, v] w fun e w' => (∃ r, e = .returned r ∧ IsW w' r (q2q (val l + val m)) ∧ (∀ b, r.ownBlock = some b → w.heap.size ≤ b)) ∧ Below w.heap.size w w' := by
 have HU := hdd hu
 have HV := hdd hv
 obtain ⟨a, cap, rfl, h1, h2, h3, h4, h5⟩ := hu
 obtain ⟨b, bcap, rfl, k1, k2, k3, k4, k5⟩ := hv
 have H4 := hdd h4
 have K4 := hdd k4
 clear h3 h4 h5 k3 k4 k5
 by_cases hlm : l.length < m.length
 ·
  have hnl : l.length ≤ m.length := by omega
  have hnm : m.length ≤ m.length := by omega
  have hnb : m.length < 1073741824 := hm
  go_enter Tryz.func160, Tryz.ntmps160
  go_wp2_with (at_make; refine v3q rfl _ _ _ _ rfl us t8q (m.length + 1) rfl rfl (by omega) ?_; intro w1 hb1 hbel hs1; refine y0q ?_)
  refine z2q ?_
  go_wp2_with fail
  go_loopw [7, 8] (fun c i wr => ∃ (k cr : Nat) (M : List Nat), k ≤ m.length + 1 ∧ i = .int .i64 k ∧ c = .int .u64 cr ∧ cr < 4294967296 ∧ Blk wr w.heap.size 125 M ∧ Hi (Ws M) ∧ Hi (M.length = m.length + 1) ∧ Below w.heap.size w wr ∧
    Hi (pv M 0 k + 4294967296 ^ k * cr = pv l 0 k + pv m 0 k)) (fun _ i _ => m.length + 1 - (intOf i).toNat)
  case atStart => exact ⟨0, 0, _, Nat.zero_le _, rfl, rfl, by omega, hb1, hdd (u4q _), hdd (by simp), hbel, hdd (by simp [x2q])⟩
  case round =>
   obtain ⟨k, cr, M, hk, rfl, rfl, hcr, hM, hMw, hMl, hon, hval⟩ := hrel
   by_cases hkn : k < m.length + 1
   ·
    have hx := y1q HU.o.ws k
    have hy := y1q HV.o.ws k
    have hcellM := hM.cell k (by have := hMl.o; omega)
    have hfree := hM.free k
    have hst := hdd (y2j (l := l) (m := m) (M := M) (k := k) (cr := cr) (by have := hMl.o; omega) hval.o)
    have hlw : j0q (u9q cr (nth l k) (nth m k)) < 4294967296 := Nat.mod_lt _ (by omega)
    have hcr' : Hi (u9q cr (nth l k) (nth m k) / 4294967296 < 4294967296) := hdd (by unfold u9q; omega)
    by_cases hka : k < l.length
    ·
     obtain ⟨b1, off1, rfl, hlt1, -⟩ := H4.o (by intro e; simp at e; subst e; simp at hka)
     have hc01 := HU.o.cell k hka
     have hc1 : wr.cell? ⟨b1, off1 + k, none⟩ = some (.int .u32 (nth l k)) := by rw [hon.cell (p := ⟨b1, off1 + k, none⟩) hlt1]; exact hc01
     clear hc01
     by_cases hkb : k < m.length
     ·
      obtain ⟨b2, off2, rfl, hlt2, -⟩ := K4.o (by intro e; simp at e; subst e; simp at hkb)
      have hc02 := HV.o.cell k hkb
      have hc2 : wr.cell? ⟨b2, off2 + k, none⟩ = some (.int .u32 (nth m k)) := by rw [hon.cell (p := ⟨b2, off2 + k, none⟩) hlt2]; exact hc02
      clear hc02
      have w4 : bits .and .u64 ((cr : Int) + (nth l k : Int) + (nth m k : Int)) 4294967295 = (j0q (u9q cr (nth l k) (nth m k)) : Int) := h9q (by unfold u9q; omega) (by unfold u9q; omega)
      have hd : Hi (((cr : Int) + (nth l k : Int) + (nth m k : Int)) / 4294967296 = ((u9q cr (nth l k) (nth m k) / 4294967296 : Nat) : Int)) := hdd (by unfold u9q; omega)
      go_wp2_with fail
      go_roundw
      case rel => exact ⟨k + 1, _, M.set k (j0q (u9q cr (nth l k) (nth m k))), by omega, by go_num, by rw [hd.o], hcr'.o, hM.setCell k _ _ (by unfold U; go_num), hdd (u0q hMw.o _ hlw), hdd (by rw [List.length_set]; exact hMl.o), hon.setCell qm _, hst⟩
      case measure => simp [intOf]; omega
     ·
      exfalso; omega
    ·
     have h1 : nth l k = 0 := p5q (by omega)
     have H1 := hdd h1
     clear h1
     by_cases hkb : k < m.length
     ·
      obtain ⟨b2, off2, rfl, hlt2, -⟩ := K4.o (by intro e; simp at e; subst e; simp at hkb)
      have hc02 := HV.o.cell k hkb
      have hc2 : wr.cell? ⟨b2, off2 + k, none⟩ = some (.int .u32 (nth m k)) := by rw [hon.cell (p := ⟨b2, off2 + k, none⟩) hlt2]; exact hc02
      clear hc02
      have w4 : bits .and .u64 ((cr : Int) + (nth m k : Int)) 4294967295 = (j0q (u9q cr (nth l k) (nth m k)) : Int) := h9q (by rw [H1.o]; unfold u9q; omega) (by unfold u9q; omega)
      have hd : Hi (((cr : Int) + (nth m k : Int)) / 4294967296 = ((u9q cr (nth l k) (nth m k) / 4294967296 : Nat) : Int)) := hdd (by rw [H1.o]; unfold u9q; omega)
      go_wp2_with fail
      go_roundw
      case rel => exact ⟨k + 1, _, M.set k (j0q (u9q cr (nth l k) (nth m k))), by omega, by go_num, by rw [hd.o], hcr'.o, hM.setCell k _ _ (by unfold U; go_num), hdd (u0q hMw.o _ hlw), hdd (by rw [List.length_set]; exact hMl.o), hon.setCell qm _, hst⟩
      case measure => simp [intOf]; omega
     ·
      have h0 : nth m k = 0 := p5q (by omega)
      have H0 := hdd h0
      clear h0
      have w4 : bits .and .u64 (cr : Int) 4294967295 = (j0q (u9q cr (nth l k) (nth m k)) : Int) := h9q (by rw [H0.o, H1.o]; unfold u9q; omega) (by unfold u9q; omega)
      have hd : Hi ((cr : Int) / 4294967296 = ((u9q cr (nth l k) (nth m k) / 4294967296 : Nat) : Int)) := hdd (by rw [H0.o, H1.o]; unfold u9q; omega)
      go_wp2_with fail
      go_roundw
      case rel => exact ⟨k + 1, _, M.set k (j0q (u9q cr (nth l k) (nth m k))), by omega, by go_num, by rw [hd.o], hcr'.o, hM.setCell k _ _ (by unfold U; go_num), hdd (u0q hMw.o _ hlw), hdd (by rw [List.length_set]; exact hMl.o), hon.setCell qm _, hst⟩
      case measure => simp [intOf]; omega
   ·
    obtain rfl : k = m.length + 1 := by omega
    have hMv := hdd (y7v HU.o.ws HV.o.ws hnl hnm hMl.o hval.o)
    have hI := hM.isW_all hMw.o (m.length + 1) (by have := hMl.o; omega) (by have := hMl.o; omega)
    rw [hMl.o] at hI
    have HI := hdd hI
    clear hI
    go_wp2_with fail
    refine (c8q HI.o hMv.o).mono ?_
    rintro en w4 ⟨⟨r, rfl, hr, hown⟩, rfl⟩
    go_wp2_with fail
    go_ret
    refine ⟨⟨r, rfl, hr, fun x hx => ?_⟩, hon⟩
    have := hown x hx
    simp [Value.ownBlock] at this
    omega
 ·
  have hnl : l.length ≤ l.length := by omega
  have hnm : m.length ≤ l.length := by omega
  have hnb : l.length < 1073741824 := hl
  go_enter Tryz.func160, Tryz.ntmps160
  go_wp2_with (at_make; refine v3q rfl _ _ _ _ rfl us t8q (l.length + 1) rfl rfl (by omega) ?_; intro w1 hb1 hbel hs1; refine y0q ?_)
  refine z2q ?_
  go_wp2_with fail
  go_loopw [7, 8] (fun c i wr => ∃ (k cr : Nat) (M : List Nat), k ≤ l.length + 1 ∧ i = .int .i64 k ∧ c = .int .u64 cr ∧ cr < 4294967296 ∧ Blk wr w.heap.size 125 M ∧ Hi (Ws M) ∧ Hi (M.length = l.length + 1) ∧ Below w.heap.size w wr ∧
    Hi (pv M 0 k + 4294967296 ^ k * cr = pv l 0 k + pv m 0 k)) (fun _ i _ => l.length + 1 - (intOf i).toNat)
  case atStart => exact ⟨0, 0, _, Nat.zero_le _, rfl, rfl, by omega, hb1, hdd (u4q _), hdd (by simp), hbel, hdd (by simp [x2q])⟩
  case round =>
   obtain ⟨k, cr, M, hk, rfl, rfl, hcr, hM, hMw, hMl, hon, hval⟩ := hrel
   by_cases hkn : k < l.length + 1
   ·
    have hx := y1q HU.o.ws k
    have hy := y1q HV.o.ws k
    have hcellM := hM.cell k (by have := hMl.o; omega)
    have hfree := hM.free k
    have hst := hdd (y2j (l := l) (m := m) (M := M) (k := k) (cr := cr) (by have := hMl.o; omega) hval.o)
    have hlw : j0q (u9q cr (nth l k) (nth m k)) < 4294967296 := Nat.mod_lt _ (by omega)
    have hcr' : Hi (u9q cr (nth l k) (nth m k) / 4294967296 < 4294967296) := hdd (by unfold u9q; omega)
    by_cases hka : k < l.length
    ·
     obtain ⟨b1, off1, rfl, hlt1, -⟩ := H4.o (by intro e; simp at e; subst e; simp at hka)
     have hc01 := HU.o.cell k hka
     have hc1 : wr.cell? ⟨b1, off1 + k, none⟩ = some (.int .u32 (nth l k)) := by rw [hon.cell (p := ⟨b1, off1 + k, none⟩) hlt1]; exact hc01
     clear hc01
     by_cases hkb : k < m.length
     ·
      obtain ⟨b2, off2, rfl, hlt2, -⟩ := K4.o (by intro e; simp at e; subst e; simp at hkb)
      have hc02 := HV.o.cell k hkb
      have hc2 : wr.cell? ⟨b2, off2 + k, none⟩ = some (.int .u32 (nth m k)) := by rw [hon.cell (p := ⟨b2, off2 + k, none⟩) hlt2]; exact hc02
      clear hc02
      have w4 : bits .and .u64 ((cr : Int) + (nth l k : Int) + (nth m k : Int)) 4294967295 = (j0q (u9q cr (nth l k) (nth m k)) : Int) := h9q (by unfold u9q; omega) (by unfold u9q; omega)
      have hd : Hi (((cr : Int) + (nth l k : Int) + (nth m k : Int)) / 4294967296 = ((u9q cr (nth l k) (nth m k) / 4294967296 : Nat) : Int)) := hdd (by unfold u9q; omega)
      go_wp2_with fail
      go_roundw
      case rel => exact ⟨k + 1, _, M.set k (j0q (u9q cr (nth l k) (nth m k))), by omega, by go_num, by rw [hd.o], hcr'.o, hM.setCell k _ _ (by unfold U; go_num), hdd (u0q hMw.o _ hlw), hdd (by rw [List.length_set]; exact hMl.o), hon.setCell qm _, hst⟩
      case measure => simp [intOf]; omega
     ·
      have h0 : nth m k = 0 := p5q (by omega)
      have H0 := hdd h0
      clear h0
      have w4 : bits .and .u64 ((cr : Int) + (nth l k : Int)) 4294967295 = (j0q (u9q cr (nth l k) (nth m k)) : Int) := h9q (by rw [H0.o]; unfold u9q; omega) (by unfold u9q; omega)
      have hd : Hi (((cr : Int) + (nth l k : Int)) / 4294967296 = ((u9q cr (nth l k) (nth m k) / 4294967296 : Nat) : Int)) := hdd (by rw [H0.o]; unfold u9q; omega)
      go_wp2_with fail
      go_roundw
      case rel => exact ⟨k + 1, _, M.set k (j0q (u9q cr (nth l k) (nth m k))), by omega, by go_num, by rw [hd.o], hcr'.o, hM.setCell k _ _ (by unfold U; go_num), hdd (u0q hMw.o _ hlw), hdd (by rw [List.length_set]; exact hMl.o), hon.setCell qm _, hst⟩
      case measure => simp [intOf]; omega
    ·
     have h1 : nth l k = 0 := p5q (by omega)
     have H1 := hdd h1
     clear h1
     by_cases hkb : k < m.length
     ·
      exfalso; omega
     ·
      have h0 : nth m k = 0 := p5q (by omega)
      have H0 := hdd h0
      clear h0
      have w4 : bits .and .u64 (cr : Int) 4294967295 = (j0q (u9q cr (nth l k) (nth m k)) : Int) := h9q (by rw [H0.o, H1.o]; unfold u9q; omega) (by unfold u9q; omega)
      have hd : Hi ((cr : Int) / 4294967296 = ((u9q cr (nth l k) (nth m k) / 4294967296 : Nat) : Int)) := hdd (by rw [H0.o, H1.o]; unfold u9q; omega)
      go_wp2_with fail
      go_roundw
      case rel => exact ⟨k + 1, _, M.set k (j0q (u9q cr (nth l k) (nth m k))), by omega, by go_num, by rw [hd.o], hcr'.o, hM.setCell k _ _ (by unfold U; go_num), hdd (u0q hMw.o _ hlw), hdd (by rw [List.length_set]; exact hMl.o), hon.setCell qm _, hst⟩
      case measure => simp [intOf]; omega
   ·
    obtain rfl : k = l.length + 1 := by omega
    have hMv := hdd (y7v HU.o.ws HV.o.ws hnl hnm hMl.o hval.o)
    have hI := hM.isW_all hMw.o (l.length + 1) (by have := hMl.o; omega) (by have := hMl.o; omega)
    rw [hMl.o] at hI
    have HI := hdd hI
    clear hI
    go_wp2_with fail
    refine (c8q HI.o hMv.o).mono ?_
    rintro en w4 ⟨⟨r, rfl, hr, hown⟩, rfl⟩
    go_wp2_with fail
    go_ret
    refine ⟨⟨r, rfl, hr, fun x hx => ?_⟩, hon⟩
    have := hown x hx
    simp [Value.ownBlock] at this
    omega

theorem g3y (hu : IsW w u (q2q x)) (hv : IsW w v (q2q y)) (hl : (q2q x).length < 1073741824) (hm : (q2q y).length < 1073741824) :
  Calls Tryz.prog 160 #[u, v] w fun e w' => (∃ r, e = .returned r ∧ IsW w' r (q2q (x + y)) ∧ (∀ b, r.ownBlock = some b → w.heap.size ≤ b)) ∧ Below w.heap.size w w' := by
 have := g3z hu hv hl hm
 rwa [j6q, j6q] at this

theorem u9h {br : Nat} (hk : k < M.length) (hl : Ws l) (hm : Ws m) (hb : br ≤ 1) (hv : pv M 0 k + pv m 0 k = pv l 0 k + 4294967296 ^ k * br) :
  (nth l k < br + nth m k → pv (M.set k (j0q (nth l k + 4294967296 - (br + nth m k)))) 0 (k + 1) + pv m 0 (k + 1) = pv l 0 (k + 1) + 4294967296 ^ (k + 1) * 1) ∧
  (¬ nth l k < br + nth m k → pv (M.set k (j0q (nth l k - (br + nth m k)))) 0 (k + 1) + pv m 0 (k + 1) = pv l 0 (k + 1) + 4294967296 ^ (k + 1) * 0) := by
 have hx := y1q hl k
 have hy := y1q hm k
 constructor
 ·
  intro h
  have e := d0q M 0 k (j0q (nth l k + 4294967296 - (br + nth m k))) (by omega)
  rw [Nat.zero_add] at e
  rw [e, v2q m, v2q l, Nat.zero_add, Nat.pow_succ]
  have h2 : j0q (nth l k + 4294967296 - (br + nth m k)) + (br + nth m k) = nth l k + 4294967296 := by unfold j0q; omega
  generalize j0q (nth l k + 4294967296 - (br + nth m k)) = d at *
  generalize 4294967296 ^ k = p at *
  have : p * (d + (br + nth m k)) = p * (nth l k + 4294967296) := by rw [h2]
  grind
 ·
  intro h
  have e := d0q M 0 k (j0q (nth l k - (br + nth m k))) (by omega)
  rw [Nat.zero_add] at e
  rw [e, v2q m, v2q l, Nat.zero_add, Nat.pow_succ]
  have h2 : j0q (nth l k - (br + nth m k)) + (br + nth m k) = nth l k := by unfold j0q; omega
  generalize j0q (nth l k - (br + nth m k)) = d at *
  generalize 4294967296 ^ k = p at *
  have : p * (d + (br + nth m k)) = p * nth l k := by rw [h2]
  grind

theorem x6v (hu : IsW w u l) (hv : IsW w v m) (hle : val m ≤ val l) :
  Calls Tryz.prog 161 #[u, v] w fun e w' => (∃ r, e = .returned r ∧ IsW w' r (q2q (val l - val m)) ∧ (∀ b, r.ownBlock = some b → w.heap.size ≤ b)) ∧ Below w.heap.size w w' := by
 have HU := hdd hu
 have HV := hdd hv
 have hll := hu.len
 have HLE := hdd hle
 obtain ⟨a, cap, rfl, h1, h2, h3, h4, h5⟩ := hu
 obtain ⟨b, bcap, rfl, k1, k2, k3, k4, k5⟩ := hv
 have H4 := hdd h4
 have K4 := hdd k4
 clear h3 h4 h5 k3 k4 k5 hle
 go_enter Tryz.func161, Tryz.ntmps161
 go_wp2_with (at_make; refine v3q rfl _ _ _ _ rfl us t8q l.length rfl rfl hll ?_; intro w1 hb1 hbel hs1; refine y0q ?_)
 refine z2q ?_
 go_wp2_with fail
 go_loopw [6, 7] (fun c i wr => ∃ (k br : Nat) (M : List Nat), k ≤ l.length ∧ i = .int .i64 k ∧ c = .int .u64 br ∧ br ≤ 1 ∧ Blk wr w.heap.size 125 M ∧ Hi (Ws M) ∧ Hi (M.length = l.length) ∧ Below w.heap.size w wr ∧
   Hi (pv M 0 k + pv m 0 k = pv l 0 k + 4294967296 ^ k * br)) (fun _ i _ => l.length - (intOf i).toNat)
 case atStart => exact ⟨0, 0, _, Nat.zero_le _, rfl, rfl, by omega, hb1, hdd (u4q _), hdd (by simp), hbel, hdd (by simp [x2q])⟩
 case round =>
  obtain ⟨k, br, M, hk, rfl, rfl, hbr, hM, hMw, hMl, hon, hval⟩ := hrel
  by_cases hkn : k < l.length
  ·
   have hx := y1q HU.o.ws k
   have hy := y1q HV.o.ws k
   obtain ⟨b1, off1, rfl, hlt1, -⟩ := H4.o (by intro e; simp at e; subst e; simp at hkn)
   have hc01 := HU.o.cell k hkn
   have hc1 : wr.cell? ⟨b1, off1 + k, none⟩ = some (.int .u32 (nth l k)) := by rw [hon.cell (p := ⟨b1, off1 + k, none⟩) hlt1]; exact hc01
   have hcellM := hM.cell k (by have := hMl.o; omega)
   have hfree := hM.free k
   have hst := hdd (u9h (l := l) (m := m) (M := M) (k := k) (br := br) (by have := hMl.o; omega) HU.o.ws HV.o.ws hbr hval.o)
   clear hc01
   by_cases hkb : k < m.length
   ·
    obtain ⟨b2, off2, rfl, hlt2, -⟩ := K4.o (by intro e; simp at e; subst e; simp at hkb)
    have hc02 := HV.o.cell k hkb
    have hc2 : wr.cell? ⟨b2, off2 + k, none⟩ = some (.int .u32 (nth m k)) := by rw [hon.cell (p := ⟨b2, off2 + k, none⟩) hlt2]; exact hc02
    clear hc02
    by_cases hlt : nth l k < br + nth m k
    ·
     have hd : decide ((nth l k : Int) < (br : Int) + (nth m k : Int)) = true := by simp; omega
     have HLT := hdd hlt
     have hle2 : br + nth m k ≤ nth l k + 4294967296 := by omega
     have w4 : bits .and .u64 ((nth l k : Int) + 4294967296 - ((br : Int) + (nth m k : Int))) 4294967295 = (j0q (nth l k + 4294967296 - (br + nth m k)) : Int) := h9q (by omega) (by omega)
     have hlw : j0q (nth l k + 4294967296 - (br + nth m k)) < 4294967296 := Nat.mod_lt _ (by omega)
     clear hlt
     go_wp2_with fail
     go_roundw
     case rel => exact ⟨k + 1, 1, M.set k (j0q (nth l k + 4294967296 - (br + nth m k))), by omega, by go_num, rfl, by omega, hM.setCell k _ _ (by unfold U; go_num), hdd (u0q hMw.o _ hlw), hdd (by rw [List.length_set]; exact hMl.o), hon.setCell qm _, hdd (hst.o.1 HLT.o)⟩
     case measure => simp [intOf]; omega
    ·
     have hd : decide ((nth l k : Int) < (br : Int) + (nth m k : Int)) = false := by simp; omega
     have HLT := hdd hlt
     have hle2 : br + nth m k ≤ nth l k := by omega
     have w4 : bits .and .u64 ((nth l k : Int) - ((br : Int) + (nth m k : Int))) 4294967295 = (j0q (nth l k - (br + nth m k)) : Int) := h9q (by omega) (by omega)
     have hlw : j0q (nth l k - (br + nth m k)) < 4294967296 := Nat.mod_lt _ (by omega)
     clear hlt
     go_wp2_with fail
     go_roundw
     case rel => exact ⟨k + 1, 0, M.set k (j0q (nth l k - (br + nth m k))), by omega, by go_num, rfl, by omega, hM.setCell k _ _ (by unfold U; go_num), hdd (u0q hMw.o _ hlw), hdd (by rw [List.length_set]; exact hMl.o), hon.setCell qm _, hdd (hst.o.2 HLT.o)⟩
     case measure => simp [intOf]; omega
   ·
    have h0 : nth m k = 0 := p5q (by omega)
    have hst' : Hi _ := hdd hst.o
    rw [h0, Nat.add_zero] at hst'
    have HST := hst'
    clear hst'
    have H0 := hdd h0
    clear h0 hst
    by_cases hlt : nth l k < br
    ·
     have hd : decide ((nth l k : Int) < (br : Int)) = true := by simp; omega
     have HLT := hdd hlt
     have hle2 : br ≤ nth l k + 4294967296 := by omega
     have w4 : bits .and .u64 ((nth l k : Int) + 4294967296 - (br : Int)) 4294967295 = (j0q (nth l k + 4294967296 - br) : Int) := h9q (by omega) (by omega)
     have hlw : j0q (nth l k + 4294967296 - br) < 4294967296 := Nat.mod_lt _ (by omega)
     clear hlt
     go_wp2_with fail
     go_roundw
     case rel => exact ⟨k + 1, 1, M.set k (j0q (nth l k + 4294967296 - br)), by omega, by go_num, rfl, by omega, hM.setCell k _ _ (by unfold U; go_num), hdd (u0q hMw.o _ hlw), hdd (by rw [List.length_set]; exact hMl.o), hon.setCell qm _, hdd (HST.o.1 HLT.o)⟩
     case measure => simp [intOf]; omega
    ·
     have hd : decide ((nth l k : Int) < (br : Int)) = false := by simp; omega
     have HLT := hdd hlt
     have hle2 : br ≤ nth l k := by omega
     have w4 : bits .and .u64 ((nth l k : Int) - (br : Int)) 4294967295 = (j0q (nth l k - br) : Int) := h9q (by omega) (by omega)
     have hlw : j0q (nth l k - br) < 4294967296 := Nat.mod_lt _ (by omega)
     clear hlt
     go_wp2_with fail
     go_roundw
     case rel => exact ⟨k + 1, 0, M.set k (j0q (nth l k - br)), by omega, by go_num, rfl, by omega, hM.setCell k _ _ (by unfold U; go_num), hdd (u0q hMw.o _ hlw), hdd (by rw [List.length_set]; exact hMl.o), hon.setCell qm _, hdd (HST.o.2 HLT.o)⟩
     case measure => simp [intOf]; omega
  ·
   obtain rfl : k = l.length := by omega
   have hMv := hdd (v8z HU.o.ws hMw.o hMl.o HLE.o hval.o)
   have hI := hM.isW_all hMw.o l.length (by have := hMl.o; omega) (by have := hMl.o; omega)
   rw [hMl.o] at hI
   have HI := hdd hI
   clear hI
   go_wp2_with fail
   refine (c8q HI.o hMv.o).mono ?_
   rintro en w4 ⟨⟨r, rfl, hr, hown⟩, rfl⟩
   go_wp2_with fail
   go_ret
   refine ⟨⟨r, rfl, hr, fun x hx => ?_⟩, hon⟩
   have := hown x hx
   simp [Value.ownBlock] at this
   omega

theorem y8z (hu : IsW w u (q2q x)) (hv : IsW w v (q2q y)) (hle : y ≤ x) :
  Calls Tryz.prog 161 #[u, v] w fun e w' => (∃ r, e = .returned r ∧ IsW w' r (q2q (x - y)) ∧ (∀ b, r.ownBlock = some b → w.heap.size ≤ b)) ∧ Below w.heap.size w w' := by
 have := x6v hu hv (by rwa [j6q, j6q])
 rwa [j6q, j6q] at this
theorem u8y (hx : x < 4294967296) (hf : f < 4294967296) (hy : y < 4294967296) {c : Nat} (hc : c < 4294967296) :
  IntKind.u64.wrap (((z4q x f y 0 : Nat) : Int) + (c : Int)) = ((z4q x f y c : Nat) : Int) := by
 have h := r0q hx hf hy hc
 have e : ((z4q x f y 0 : Nat) : Int) + (c : Int) = ((z4q x f y c : Nat) : Int) := by unfold z4q; omega
 rw [e]; exact IntWalk.u64_in _ (by omega)

theorem y8v {i : Nat} (hi : j + i < N.length) (hsame : nth N (j + i) = nth M (j + i)) (hv : pv N j i + 4294967296 ^ i * c = pv M j i + pv l 0 i * f) :
  pv (N.set (j + i) (j0q (z4q (nth l i) f (nth N (j + i)) c))) j (i + 1) + 4294967296 ^ (i + 1) * (z4q (nth l i) f (nth N (j + i)) c / 4294967296) = pv M j (i + 1) + pv l 0 (i + 1) * f :=
 z0h hi hsame hv

theorem v3v (hN : j + m.length < N.length) (hlow : ∀ i, i < j → nth N i = nth M i)
  (hv : pv N j m.length + 4294967296 ^ m.length * c = pv M j m.length + pv m 0 m.length * nth l j) (ho : pv M 0 (j + m.length) = val m * pv l 0 j) :
  pv (N.set (j + m.length) c) 0 (j + 1 + m.length) = val m * pv l 0 (j + 1) :=
 z5w (l := m) (m := l) hN hlow hv ho

theorem x7j (hu : IsW w u l) (hv : IsW w v m) (hlen : l.length + m.length ≤ 1073741824) :
  Calls Tryz.prog 95 #[u, v] w fun e w' => (∃ r, e = .returned r ∧ IsW w' r (q2q (val l * val m)) ∧ (∀ b, r.ownBlock = some b → w.heap.size ≤ b)) ∧ Below w.heap.size w w' := by
 have HU := hdd hu
 have HV := hdd hv
 obtain ⟨a, cap, rfl, h1, h2, h3, h4, h5⟩ := hu
 obtain ⟨b, bcap, rfl, k1, k2, k3, k4, k5⟩ := hv
 have H4 := hdd h4
 have K4 := hdd k4
 clear h3 h4 h5 k3 k4 k5
 go_enter Tryz.func95, Tryz.ntmps95
 go_wp2_with (at_make; refine v3q rfl _ _ _ _ rfl us t8q (l.length + m.length) rfl rfl hlen ?_; intro w1 hb1 hbel hs1; refine y0q ?_)
 refine z2q ?_
 go_wp2_with fail
 go_loopw [6] (fun i wr => ∃ (j : Nat) (M : List Nat), j ≤ l.length ∧ i = .int .i64 j ∧ Blk wr w.heap.size 125 M ∧ Hi (Ws M) ∧ Hi (M.length = l.length + m.length) ∧ Below w.heap.size w wr ∧
   Hi (pv M 0 (j + m.length) = val m * pv l 0 j)) (fun i _ => l.length - (intOf i).toNat)
 case atStart => exact ⟨0, _, Nat.zero_le _, rfl, hb1, hdd (u4q _), hdd (by simp), hbel, hdd (by rw [o2q, x2q]; simp)⟩
 case round =>
  obtain ⟨j, M, hj, rfl, hM, hMw, hMl, hon, hval⟩ := hrel
  obtain ⟨wo, rfl⟩ : ∃ wo : World, wo = wr := ⟨_, rfl⟩
  by_cases hjl : j < l.length
  ·
   obtain ⟨ab, aoff, rfl, y0q, -⟩ := H4.o (by intro e; simp at e; subst e; simp at hjl)
   have hf := y1q HU.o.ws j
   go_wp2_with fail
   go_loopw [7, 8] (fun c i wr => ∃ (t cr : Nat) (N : List Nat), t ≤ m.length ∧ i = .int .i64 t ∧ c = .int .u64 cr ∧ cr < 4294967296 ∧ Blk wr w.heap.size 125 N ∧ Hi (Ws N) ∧ Hi (N.length = l.length + m.length) ∧ Below w.heap.size w wr ∧
    Hi (∀ x, (x < j ∨ j + t ≤ x) → nth N x = nth M x) ∧ Hi (pv N j t + 4294967296 ^ t * cr = pv M j t + pv m 0 t * nth l j)) (fun _ i _ => m.length - (intOf i).toNat)
   case atStart => exact ⟨0, 0, M, Nat.zero_le _, rfl, rfl, by omega, hM, hMw, hMl, hon, hdd (fun _ _ => rfl), hdd (by simp [x2q])⟩
   case round =>
    obtain ⟨t, cr, N, ht, rfl, rfl, hcr, hN, hNw, hNl, hon2, hsame, hval2⟩ := hrel
    by_cases htl : t < m.length
    ·
     obtain ⟨bb, boff, rfl, hblt, -⟩ := K4.o (by intro e; simp at e; subst e; simp at htl)
     have hca0 := HU.o.cell j hjl
     have hca : wr.cell? ⟨ab, aoff + j, none⟩ = some (.int .u32 (nth l j)) := by rw [hon2.cell (p := ⟨ab, aoff + j, none⟩) y0q]; exact hca0
     have hcb0 := HV.o.cell t htl
     have hcb : wr.cell? ⟨bb, boff + t, none⟩ = some (.int .u32 (nth m t)) := by rw [hon2.cell (p := ⟨bb, boff + t, none⟩) hblt]; exact hcb0
     have hx := y1q HV.o.ws t
     have hy := y1q hNw.o (j + t)
     have hcN := hN.cell (j + t) (by have := hNl.o; omega)
     have hfree := hN.free (j + t)
     have w1 : IntKind.u64.wrap ((nth l j : Int) * (nth m t : Int)) = ((z4q (nth m t) (nth l j) 0 0 : Nat) : Int) := by rw [Int.mul_comm]; exact d9q hx hf
     have w2 := z5k hx hf hy
     have w3 := u8y hx hf hy hcr
     have w4 := r0q hx hf hy hcr
     have w5 := l0q _ w4
     have hlw : j0q (z4q (nth m t) (nth l j) (nth N (j + t)) cr) < 4294967296 := Nat.mod_lt _ (by omega)
     have hst := hdd (y8v (l := m) (M := M) (N := N) (j := j) (i := t) (c := cr) (f := nth l j) (by have := hNl.o; omega) (hsame.o _ (by omega)) hval2.o)
     clear hca0 hcb0
     go_wp2_with fail
     go_quiet (fail)
     go_wp2_with fail
     go_roundw
     case rel =>
      exact ⟨t + 1, z4q (nth m t) (nth l j) (nth N (j + t)) cr / 4294967296, N.set (j + t) (j0q (z4q (nth m t) (nth l j) (nth N (j + t)) cr)), by omega, by go_num, by go_num, by omega,
       hN.setCell (j + t) _ _ (by unfold U; go_num), hdd (u0q hNw.o _ hlw), hdd (by rw [List.length_set]; exact hNl.o), (q5q hon2 nq).setCell qm _,
       hdd (fun x hx => by rw [u8q _ _ _ _ (by omega)]; exact hsame.o x (by omega)), hst⟩
     case measure => simp [intOf]; omega
    ·
     obtain rfl : t = m.length := by omega
     have hfree := hN.free (j + m.length)
     have hcN := hN.cell (j + m.length) (by have := hNl.o; omega)
     go_wp2_with fail
     go_roundw
     case rel =>
      exact ⟨j + 1, N.set (j + m.length) cr, by omega, by go_num, hN.setCell (j + m.length) _ _ (by unfold U; go_num), hdd (u0q hNw.o _ hcr), hdd (by rw [List.length_set]; exact hNl.o), hon2.setCell qm _,
       hdd (v3v (by have := hNl.o; omega) (fun x hx => hsame.o x (Or.inl hx)) hval2.o hval.o)⟩
     case measure => simp [intOf]; omega
  ·
   obtain rfl : j = l.length := by omega
   have hMv : Hi (val M = val l * val m) := hdd (by
    have h := hval.o
    rw [y8q (by have := hMl.o; omega), y8q rfl] at h
    rw [h, Nat.mul_comm])
   have hI := hM.isW_all hMw.o (l.length + m.length) (by have := hMl.o; omega) (by have := hMl.o; omega)
   rw [hMl.o] at hI
   have HI := hdd hI
   clear hI
   go_wp2_with fail
   refine (c8q HI.o hMv.o).mono ?_
   rintro en w4 ⟨⟨r, rfl, hr, hown⟩, rfl⟩
   go_wp2_with fail
   go_ret
   refine ⟨⟨r, rfl, hr, fun x hx => ?_⟩, hon⟩
   have := hown x hx
   simp [Value.ownBlock] at this
   omega

theorem a3q (hu : IsW w u (q2q x)) (hv : IsW w v (q2q y)) (hlen : (q2q x).length + (q2q y).length ≤ 1073741824) :
  Calls Tryz.prog 95 #[u, v] w fun e w' => (∃ r, e = .returned r ∧ IsW w' r (q2q (x * y)) ∧ (∀ b, r.ownBlock = some b → w.heap.size ≤ b)) ∧ Below w.heap.size w w' := by
 have := x7j hu hv hlen
 rwa [j6q, j6q] at this

theorem u6w {L : List Nat} {r : Nat} (hk : 0 < k) (hkn : k ≤ n) (hn : n ≤ M.length) (hv : by_ * pv M k (n - k) + r = pv L k (n - k)) :
  by_ * pv (M.set (k - 1) (x4q (y4q r (nth L (k - 1))) by_)) (k - 1) (n - (k - 1)) + y4q r (nth L (k - 1)) % by_ = pv L (k - 1) (n - (k - 1)) := by
 have e : n - (k - 1) = (n - k) + 1 := by omega
 have ek : k - 1 + 1 = k := by omega
 rw [e, c5q, c5q, w2q _ _ _ (by omega), ek, l1q (m := M) (fun j _ => u8q _ _ _ _ (by omega)), ← hv]
 have h := Nat.mod_add_div (y4q r (nth L (k - 1))) by_
 unfold x4q
 generalize y4q r (nth L (k - 1)) / by_ = q at *
 generalize y4q r (nth L (k - 1)) % by_ = d at *
 unfold y4q at h
 grind

theorem u9y (hu : IsW w u l) (hb0 : 0 < by_) (hb : by_ < 4294967296) :
  Calls Tryz.prog 162 #[u, .int .u32 by_] w fun en w' => (∃ q, en = .returned (.tuple #[q, .int .u32 (val l % by_ : Nat)]) ∧ IsW w' q (q2q (val l / by_)) ∧ (∀ b, q.ownBlock = some b → w.heap.size ≤ b)) ∧ Below w.heap.size w w' := by
 have HU := hdd hu
 have hll := hu.len
 obtain ⟨a, cap, rfl, h1, h2, h3, h4, h5⟩ := hu
 have H4 := hdd h4
 clear h3 h4 h5
 have hb00 : ((by_ : Int) == 0) = false := by simp; omega
 go_enter Tryz.func162, Tryz.ntmps162
 go_wp2_with (at_make; refine v3q rfl _ _ _ _ rfl us t8q l.length rfl rfl hll ?_; intro w1 hb1 hbel hs1; refine y0q ?_)
 refine z2q ?_
 go_wp2_with fail
 go_loopw [7, 8] (fun c i wr => ∃ (k r : Nat) (M : List Nat), k ≤ l.length ∧ i = .int .i64 ((k : Int) - 1) ∧ c = .int .u64 r ∧ r < by_ ∧ Blk wr w.heap.size 125 M ∧ Hi (Ws M) ∧ Hi (M.length = l.length) ∧ Below w.heap.size w wr ∧
   Hi (by_ * pv M k (l.length - k) + r = pv l k (l.length - k))) (fun _ i _ => (intOf i + 1).toNat)
 case atStart => exact ⟨l.length, 0, _, Nat.le_refl _, rfl, rfl, hb0, hb1, hdd (u4q _), hdd (by simp), hbel, hdd (by simp [x2q])⟩
 case round =>
  obtain ⟨k, r, M, hk, rfl, rfl, hr, hM, hMw, hMl, hon, hval⟩ := hrel
  by_cases hk0 : 0 < k
  ·
   have hx := y1q HU.o.ws (k - 1)
   obtain ⟨b1, off1, rfl, hlt1, -⟩ := H4.o (by intro e; simp at e; subst e; simp at hk; omega)
   have hc01 := HU.o.cell (k - 1) (by omega)
   have hc1 : wr.cell? ⟨b1, off1 + (k - 1), none⟩ = some (.int .u32 (nth l (k - 1))) := by rw [hon.cell (p := ⟨b1, off1 + (k - 1), none⟩) hlt1]; exact hc01
   have hcellM := hM.cell (k - 1) (by have := hMl.o; omega)
   have hfree := hM.free (k - 1)
   have w1 := w7q (show r < 4294967296 by omega) hx
   have w2 := i5q (show r < 4294967296 by omega) hx
   have hq : x4q (y4q r (nth l (k - 1))) by_ < 4294967296 := by
    unfold x4q y4q
    have : by_ * (r + 1) ≤ by_ * by_ := Nat.mul_le_mul_left _ hr
    refine Nat.div_lt_of_lt_mul ?_
    have h2 : (r + 1) * 4294967296 ≤ by_ * 4294967296 := Nat.mul_le_mul_right _ hr
    omega
   have w3 := w5q (y4q r (nth l (k - 1))) by_ (by omega)
   have hst := hdd (u6w (L := l) (M := M) (n := l.length) hk0 hk (by have := hMl.o; omega) hval.o)
   clear hc01
   go_wp2_with fail
   go_roundw
   case rel =>
    exact ⟨k - 1, y4q r (nth l (k - 1)) % by_, M.set (k - 1) (x4q (y4q r (nth l (k - 1))) by_), by omega, by go_num, by rw [← Int.natCast_emod], Nat.mod_lt _ hb0,
     hM.setCell _ _ _ (by unfold U; go_num), hdd (u0q hMw.o _ hq), hdd (by rw [List.length_set]; exact hMl.o), hon.setCell qm _, hst⟩
   case measure => simp [intOf]; omega
  ·
   obtain rfl : k = 0 := by omega
   have h1 : Hi (val l % by_ = r ∧ val M = val l / by_) := hdd (by
    have h2 := hval.o
    rw [Nat.sub_zero, y8q rfl, y8q hMl.o] at h2
    rw [← h2]
    exact ⟨by rw [Nat.mul_add_mod, Nat.mod_eq_of_lt hr], by rw [Nat.mul_add_div hb0, Nat.div_eq_of_lt hr, Nat.add_zero]⟩)
   have hr2 : r < 4294967296 := by omega
   have hI := hM.isW_all hMw.o l.length (by have := hMl.o; omega) (by have := hMl.o; omega)
   rw [hMl.o] at hI
   have HI := hdd hI
   clear hI
   go_wp2_with fail
   refine (c8q HI.o h1.o.2).mono ?_
   rintro en w4 ⟨⟨q, rfl, hq, hown⟩, rfl⟩
   go_wp2_with fail
   go_ret2
   refine ⟨⟨q, by rw [h1.o.1]; rfl, hq, fun x hx => ?_⟩, hon⟩
   have := hown x hx
   simp [Value.ownBlock] at this
   omega
theorem u9v (hu : IsW w u (q2q x)) (hb0 : 0 < by_) (hb : by_ < 4294967296) :
  Calls Tryz.prog 162 #[u, .int .u32 by_] w fun en w' => (∃ q, en = .returned (.tuple #[q, .int .u32 (x % by_ : Nat)]) ∧ IsW w' q (q2q (x / by_)) ∧ (∀ b, q.ownBlock = some b → w.heap.size ≤ b)) ∧ Below w.heap.size w w' := by
 have := u9y hu hb0 hb
 rwa [j6q] at this
theorem z6z {a b : Nat} (ha : a < 2 ^ s) : a ||| (b * 2 ^ s) = a + b * 2 ^ s := by
 rw [Nat.or_comm, Nat.mul_comm]
 have := Nat.two_pow_add_eq_or_of_lt ha b
 omega

theorem v6y (hs : s < 32) : j0q (k8q x s) = (x % 2 ^ (32 - s)) * 2 ^ s := by
 unfold j0q k8q
 have e : (4294967296 : Nat) = 2 ^ (32 - s) * 2 ^ s := by rw [← Nat.pow_add, show 32 - s + s = 32 by omega]
 rw [e, Nat.mul_mod_mul_right]
theorem g9k (hc : c < 2 ^ s) (hs : s < 32) : bits .or .u32 (c : Int) (j0q (k8q x s) : Int) = ((c + j0q (k8q x s) : Nat) : Int) := by
 have h1 : 2 ^ s ≤ 2 ^ 31 := Nat.pow_le_pow_right (by omega) (by omega)
 have h2 : j0q (k8q x s) < 4294967296 := Nat.mod_lt _ (by omega)
 rw [u32_or_nat c _ (by omega) h2, v6y hs, z6z hc]
theorem g3h (hc : c < 2 ^ s) (hs : s < 32) : c + j0q (k8q x s) < 4294967296 := by
 rw [v6y hs]
 have e : (4294967296 : Nat) = 2 ^ (32 - s) * 2 ^ s := by rw [← Nat.pow_add, show 32 - s + s = 32 by omega]
 rw [e]
 have h : x % 2 ^ (32 - s) + 1 ≤ 2 ^ (32 - s) := Nat.mod_lt _ (Nat.pow_pos (by omega))
 have := Nat.mul_le_mul_right (2 ^ s) h
 rw [Nat.add_mul, Nat.one_mul] at this
 omega
theorem y9h (hx : x < 4294967296) : k8q x s / 4294967296 < 2 ^ s := by
 unfold k8q
 exact Nat.div_lt_of_lt_mul (Nat.mul_lt_mul_of_pos_right hx (Nat.pow_pos (by omega)))

theorem x7v (hk : k + 1 < M.length) (hc : c = nth M k) (hv : pv M 0 (k + 1) = pv l 0 k * 2 ^ s) :
  pv ((M.set k (c + j0q (k8q (nth l k) s))).set (k + 1) (k8q (nth l k) s / 4294967296)) 0 (k + 1 + 1) = pv l 0 (k + 1) * 2 ^ s := by
 have e := d0q (M.set k (c + j0q (k8q (nth l k) s))) 0 (k + 1) (k8q (nth l k) s / 4294967296) (by simp; omega)
 rw [Nat.zero_add] at e
 have e2 := d0q M 0 k (c + j0q (k8q (nth l k) s)) (by omega)
 rw [Nat.zero_add] at e2
 rw [e, e2, v2q l, Nat.zero_add, Nat.add_mul, ← hv, v2q M, Nat.zero_add, ← hc]
 have h := Nat.mod_add_div (k8q (nth l k) s) 4294967296
 unfold j0q
 generalize hq : k8q (nth l k) s / 4294967296 = q at *
 generalize hd : k8q (nth l k) s % 4294967296 = d at *
 unfold k8q at h
 rw [Nat.pow_succ]
 generalize 4294967296 ^ k = p at *
 generalize 2 ^ s = t at *
 have : p * (d + 4294967296 * q) = p * (nth l k * t) := by rw [h]
 grind

theorem y8w (h : IsW w v l) (s : Nat) (hs : s < 32) (hl : l.length < 1073741824) :
  Calls Tryz.prog 163 #[v, .int .u64 s] w fun e w' => (∃ M, e = .returned (.slice (some ⟨w.heap.size, 0, none⟩) (l.length + 1) (l.length + 1)) ∧ Blk w' w.heap.size 125 M ∧ Ws M ∧ M.length = l.length + 1 ∧ val M = val l * 2 ^ s) ∧ Below w.heap.size w w' ∧ w'.heap.size = w.heap.size + 1 := by
 have H := hdd h
 obtain ⟨a, cap, rfl, h1, h2, h3, h4, h5⟩ := h
 have H4 := hdd h4
 clear h3 h4 h5
 go_enter Tryz.func163, Tryz.ntmps163
 go_wp2_with (at_make; refine v3q rfl _ _ _ _ rfl us t8q (l.length + 1) rfl rfl hl ?_; intro w1 hb1 hbel hs1; refine y0q ?_)
 refine z2q ?_
 go_wp2_with fail
 go_loopw [6] (fun i wr => ∃ (k : Nat) (M : List Nat), k ≤ l.length ∧ i = .int .i64 k ∧ Blk wr w.heap.size 125 M ∧ Hi (Ws M) ∧ Hi (M.length = l.length + 1) ∧ Below w.heap.size w wr ∧
   Hi (wr.heap.size = w.heap.size + 1) ∧ Hi (nth M k < 2 ^ s) ∧ Hi (∀ j, k < j → nth M j = 0) ∧ Hi (pv M 0 (k + 1) = pv l 0 k * 2 ^ s)) (fun i _ => l.length - (intOf i).toNat)
 case atStart => exact ⟨0, _, Nat.zero_le _, rfl, hb1, hdd (u4q _), hdd (by simp), hbel, hs1, hdd (by rw [e3q]; exact Nat.pow_pos (by omega)), hdd (fun j _ => e3q _ _), hdd (by rw [o2q, x2q]; simp)⟩
 case round =>
  obtain ⟨k, M, hk, rfl, hM, hMw, hMl, hon, hsz, hc, hz, hval⟩ := hrel
  by_cases hkn : k < l.length
  ·
   have hx := y1q H.o.ws k
   obtain ⟨b, off, rfl, hlt, -⟩ := H4.o (by intro e; simp at e; subst e; simp at hkn)
   have hcell0 := H.o.cell k hkn
   have hcell : wr.cell? ⟨b, off + k, none⟩ = some (.int .u32 (nth l k)) := by rw [hon.cell (p := ⟨b, off + k, none⟩) hlt]; exact hcell0
   have hcellM := hM.cell k (by have := hMl.o; omega)
   have hcellN := hM.cell (k + 1) (by have := hMl.o; omega)
   rw [hz.o (k + 1) (by omega)] at hcellN
   have hfree := hM.free k
   have hfree2 := hM.free (k + 1)
   have w1 := y2v hx hs
   have w0 := z9j hx hs
   have w2 := l0q (k8q (nth l k) s) (by omega)
   have w3 := g9k (x := nth l k) hc.o hs
   have w4 := g3h (x := nth l k) hc.o hs
   have w5 : k8q (nth l k) s / 4294967296 < 4294967296 := Nat.lt_trans (y9h (s := s) hx) (Nat.lt_of_lt_of_le (Nat.pow_lt_pow_right (by omega) hs) qm)
   have w6 : j0q (k8q (nth l k) s) < 4294967296 := Nat.mod_lt _ (by omega)
   have w7 : bits .or .u32 0 ((k8q (nth l k) s : Int) / 4294967296) = ((k8q (nth l k) s / 4294967296 : Nat) : Int) := by
    have h9 := u32_or_nat 0 (k8q (nth l k) s / 4294967296) (by omega) w5
    rw [Nat.zero_or] at h9
    rw [← h9]; congr 1
   have hst := hdd (x7v (l := l) (M := M) (k := k) (s := s) (by have := hMl.o; omega) rfl hval.o)
   clear hcell0
   go_wp2_with fail
   go_roundw
   case rel =>
    exact ⟨k + 1, (M.set k (nth M k + j0q (k8q (nth l k) s))).set (k + 1) (k8q (nth l k) s / 4294967296), by omega, by go_num,
     (hM.setCell k _ _ (by unfold U; go_num)).setCell (k + 1) _ _ (by unfold U; go_num), hdd (u0q (u0q hMw.o _ w4) _ w5), hdd (by rw [List.length_set, List.length_set]; exact hMl.o),
     (hon.setCell qm _).setCell qm _, hdd (by have := hsz.o; simpa [World.setCell] using this),
     hdd (by rw [w2q _ _ _ (by have := hMl.o; simp; omega)]; exact y9h hx),
     hdd (fun j hj => by rw [u8q _ _ _ _ (by omega), u8q _ _ _ _ (by omega)]; exact hz.o j (by omega)), hst⟩
   case measure => simp [intOf]; omega
  ·
   obtain rfl : k = l.length := by omega
   go_wp2_with fail
   go_ret
   refine ⟨⟨M, rfl, hM, hMw.o, hMl.o, ?_⟩, hon, hsz.o⟩
   have h9 := hval.o
   rw [y8q hMl.o, y8q rfl] at h9
   exact h9

theorem x2z {hi lo : Nat} (h : hi < 4294967296) (k : lo < 4294967296) : bits .or .u64 (lo : Int) ((hi : Int) * 4294967296) = (y4q hi lo : Int) := by
 have h1 := u64_or_nat lo (hi * 4294967296) (by omega) (by omega)
 have h2 : lo ||| hi * 4294967296 = y4q hi lo := by
  have := z6z (a := lo) (b := hi) (s := 32) k
  unfold y4q; rw [show (4294967296 : Nat) = 2 ^ 32 from rfl, this]; omega
 rw [h2] at h1
 rw [← h1]
 congr 1

theorem v7w (s : Nat) (hx : x < 18446744073709551616) : bits .and .u64 ((x : Int) / 2 ^ s) 4294967295 = (j0q (x / 2 ^ s) : Int) :=
 h9q (by rw [Int.natCast_ediv]; simp) (by have := Nat.div_le_self x (2 ^ s); omega)

theorem g2k (h : IsW w v l) (s : Nat) (hs : s < 32) :
  Calls Tryz.prog 164 #[v, .int .u64 s] w fun e w' => (∃ r, e = .returned r ∧ IsW w' r (q2q (val l / 2 ^ s)) ∧ (∀ b, r.ownBlock = some b → w.heap.size ≤ b)) ∧ Below w.heap.size w w' := by
 have H := hdd h
 obtain ⟨a, cap, rfl, h1, h2, h3, h4, h5⟩ := h
 have H4 := hdd h4
 clear h3 h4 h5
 go_enter Tryz.func164, Tryz.ntmps164
 go_wp2_with (at_make; refine v3q rfl _ _ _ _ rfl us t8q l.length rfl rfl h2 ?_; intro w1 hb1 hbel hs1; refine y0q ?_)
 refine z2q ?_
 go_wp2_with fail
 go_loopw [6] (fun i wr => ∃ (k : Nat) (M : List Nat), k ≤ l.length ∧ i = .int .i64 k ∧ Blk wr w.heap.size 125 M ∧ Hi (Ws M) ∧ Hi (M.length = l.length) ∧ Below w.heap.size w wr ∧
   Hi (pv M 0 k = val l / 2 ^ s % 4294967296 ^ k)) (fun i _ => l.length - (intOf i).toNat)
 case atStart => exact ⟨0, _, Nat.zero_le _, rfl, hb1, hdd (u4q _), hdd (by simp), hbel, hdd (by simp [x2q, Nat.mod_one])⟩
 case round =>
  obtain ⟨k, M, hk, rfl, hM, hMw, hMl, hon, hval⟩ := hrel
  by_cases hkn : k < l.length
  ·
   have hx := y1q H.o.ws k
   have hy := y1q H.o.ws (k + 1)
   obtain ⟨b, off, rfl, hlt, -⟩ := H4.o (by intro e; simp at e; subst e; simp at hkn)
   have hcell0 := H.o.cell k hkn
   have hcell : wr.cell? ⟨b, off + k, none⟩ = some (.int .u32 (nth l k)) := by rw [hon.cell (p := ⟨b, off + k, none⟩) hlt]; exact hcell0
   have hcellM := hM.cell k (by have := hMl.o; omega)
   have hfree := hM.free k
   have w3 : j0q (y4q (nth l (k + 1)) (nth l k) / 2 ^ s) < 4294967296 := Nat.mod_lt _ (by omega)
   have hst := hdd (v0z H.o.ws hs (M := M) (k := k) (by have := hMl.o; omega) hval.o)
   clear hcell0
   by_cases hk1 : k + 1 < l.length
   ·
    have hcell1 := H.o.cell (k + 1) hk1
    have hcelln : wr.cell? ⟨b, off + (k + 1), none⟩ = some (.int .u32 (nth l (k + 1))) := by rw [hon.cell (p := ⟨b, off + (k + 1), none⟩) hlt]; exact hcell1
    have w1 := x2z hy hx
    have w2 := i5q hy hx
    have w4 := v7w (x := y4q (nth l (k + 1)) (nth l k)) s w2
    clear hcell1
    go_wp2_with fail
    go_roundw
    case rel =>
     exact ⟨k + 1, M.set k (j0q (y4q (nth l (k + 1)) (nth l k) / 2 ^ s)), by omega, by go_num, hM.setCell k _ _ (by unfold U; go_num), hdd (u0q hMw.o _ w3),
      hdd (by rw [List.length_set]; exact hMl.o), hon.setCell qm _, hst⟩
    case measure => simp [intOf]; omega
   ·
    have h0 : nth l (k + 1) = 0 := p5q (by omega)
    have e0 : y4q (nth l (k + 1)) (nth l k) = nth l k := by rw [h0]; unfold y4q; omega
    rw [e0] at hst w3
    have w4 := v7w (x := nth l k) s (by omega)
    clear h0 e0 hy
    go_wp2_with fail
    go_roundw
    case rel =>
     exact ⟨k + 1, M.set k (j0q (nth l k / 2 ^ s)), by omega, by go_num, hM.setCell k _ _ (by unfold U; go_num), hdd (u0q hMw.o _ w3),
      hdd (by rw [List.length_set]; exact hMl.o), hon.setCell qm _, hst⟩
    case measure => simp [intOf]; omega
  ·
   obtain rfl : k = l.length := by omega
   have hMv : Hi (val M = val l / 2 ^ s) := hdd (by
    have h1 := hval.o
    rw [y8q hMl.o] at h1
    rw [h1]
    exact Nat.mod_eq_of_lt (Nat.lt_of_le_of_lt (Nat.div_le_self _ _) (m0q H.o.ws)))
   have hI := hM.isW_all hMw.o l.length (by have := hMl.o; omega) (by have := hMl.o; omega)
   rw [hMl.o] at hI
   have HI := hdd hI
   clear hI
   go_wp2_with fail
   refine (c8q HI.o hMv.o).mono ?_
   rintro en w4 ⟨⟨r, rfl, hr, hown⟩, rfl⟩
   go_wp2_with fail
   go_ret
   refine ⟨⟨r, rfl, hr, fun x hx => ?_⟩, hon⟩
   have := hown x hx
   simp [Value.ownBlock] at this
   omega
theorem y8x :
  Calls Tryz.prog 116 #[] w fun e w' => (∃ r, e = .returned r ∧ IsW w' r (q2q 1) ∧ (∀ b, r.ownBlock = some b → w.heap.size ≤ b)) ∧ Below w.heap.size w w' := by
 go_enter Tryz.func116, Tryz.ntmps116
 go_wp2_with fail
 have hB : Blk (w.alloc (Obj.cells #[.int IntKind.u32 1] 125)) w.heap.size 125 [1] := by
  show (w.heap.push _)[w.heap.size]? = _
  simp [U]
 have h1 : q2q 1 = [1] := by unfold q2q; simp [q2q]
 have hI := hB.isW_all (by intro x hx; simp at hx; omega) 1 (by simp) (by simp)
 go_ret
 refine ⟨⟨_, rfl, h1 ▸ hI, fun x hx => ?_⟩, (qb).alloc qm _⟩
 simp [Value.ownBlock] at hx
 omega

theorem z8h (n : Nat) (hn : n < 18446744073709551616) :
  Calls Tryz.prog 141 #[.int .u64 n] w fun e w' => (∃ r, e = .returned r ∧ IsW w' r (q2q n) ∧ (∀ b, r.ownBlock = some b → w.heap.size ≤ b)) ∧ Below w.heap.size w w' := by
 have w1 := l0q n hn
 have hl : j0q n < 4294967296 := Nat.mod_lt _ (by omega)
 have hh : n / 4294967296 < 4294967296 := by omega
 go_enter Tryz.func141, Tryz.ntmps141
 go_wp2_with fail
 have hB : Blk (w.alloc (Obj.cells #[.int IntKind.u32 (j0q n : Int), .int IntKind.u32 ((n : Int) / 4294967296)] 125)) w.heap.size 125 [n % 4294967296, n / 4294967296] := by
  show (w.heap.push _)[w.heap.size]? = _
  simp [U, j0q]
 have hI := hB.isW_all (q9j n hn).1 2 (by simp) (by simp)
 have HI := hdd hI
 clear hB hI
 refine (c8q HI.o (q9j n hn).2).mono ?_
 rintro en w4 ⟨⟨r, rfl, hr, hown⟩, rfl⟩
 go_wp2_with fail
 go_ret
 refine ⟨⟨r, rfl, hr, fun x hx => ?_⟩, (qb).alloc qm _⟩
 have := hown x hx
 simp [Value.ownBlock] at this
 omega

theorem x6h (h : IsW w v l) (hl : l.length ≤ 2) :
  Calls Tryz.prog 140 #[v] w fun e w' => e = .returned (.int .u64 (val l)) ∧ w = w' := by
 have H := hdd h
 obtain ⟨a, cap, rfl, h1, h2, h3, h4, h5⟩ := id h
 have H4 := hdd h4
 clear h h3 h4 h5
 go_enter Tryz.func140, Tryz.ntmps140
 go_wp2_with fail
 go_loop [3, 4] (fun n i => ∃ k : Nat, k ≤ l.length ∧ i = .int .i64 ((k : Int) - 1) ∧ n = .int .u64 (val (l.drop k) : Nat)) (fun _ i => (intOf i + 1).toNat)
 case atStart => exact ⟨l.length, Nat.le_refl _, rfl, by rw [List.drop_length]; rfl⟩
 case round =>
  obtain ⟨k, hk, rfl, rfl⟩ := hrel
  by_cases hk0 : 0 < k
  ·
   have hx := y1q H.o.ws (k - 1)
   obtain ⟨b, off, rfl, hlt, -⟩ := H4.o (by intro e; simp at e; subst e; simp at hk; omega)
   have hcell := H.o.cell (k - 1) (by omega)
   obtain ⟨hi, hhi⟩ := qx (val (l.drop k))
   have hhib : hi < 4294967296 := by
    rw [hhi]
    have h9 := m0q (j2j H.o.ws k)
    have h8 : 4294967296 ^ (l.drop k).length ≤ 4294967296 ^ 1 := Nat.pow_le_pow_right (by omega) (by rw [List.length_drop]; omega)
    omega
   have hnx : Hi (val (l.drop (k - 1)) = y4q hi (nth l (k - 1))) := hdd (by
    rw [l8q, Nat.sub_add_cancel hk0, ← hhi]; unfold y4q; omega)
   rw [← hhi]
   have w1 := w7q hhib hx
   clear hhi
   go_wp2_with fail
   go_round
   case rel => exact ⟨k - 1, by omega, by go_num, by rw [hnx.o]⟩
   case measure => simp [intOf]; omega
  ·
   obtain rfl : k = 0 := by omega
   go_wp2_with fail
   go_ret
   exact ⟨by simp, rfl⟩
theorem y8h (h : IsW w v (q2q x)) (hl : (q2q x).length ≤ 2) :
  Calls Tryz.prog 140 #[v] w fun e w' => e = .returned (.int .u64 x) ∧ w = w' := by
 have := x6h h hl
 rwa [j6q] at this
end Go.Proofs.YtkkbmlkpgknhgaaGreat
