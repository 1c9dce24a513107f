/- Several texts in one: T1. -/
import Derived.Test.YtafenoohjcpjgaaGreatZ12
import Derived.Test.YtafenoohjcpjgaaGreatZ9
/- The reference's words: trimming, order. -/
namespace Go.Proofs.YtafenoohjcpjgaaGreat
open Go.RowKit

theorem us : Tryz.prog.underlying 41 = some (.slice 125) := Tryz.underlying41

theorem IsW.trimc {w : World} {a : Option Addr} {cap : Nat} {l : List Nat} (h : IsW w (.slice a l.length cap) l) : IsW w (.slice a (digs (val l)).length cap) (digs (val l)) := by
  have hw := h.ws
  have hle := len_digs_val hw
  have e := digs_prefix hw
  have hc : l.length ≤ cap := by obtain ⟨a', cap', hv, h1, -⟩ := h; cases hv; exact h1
  have := h.take (digs (val l)).length cap hle (by omega)
  rwa [← e] at this

set_option maxHeartbeats 400000 in
theorem rtrim_x {w : World} {a : Option Addr} {cap : Nat} {l : List Nat} (h : IsW w (.slice a l.length cap) l) :
    Calls Tryz.prog 121 #[.slice a l.length cap] w fun e w' => e = .returned (.slice a (digs (val l)).length cap) ∧ w = w' := by
  obtain ⟨a', cap', hv, h1, h2, h3, h4, h5⟩ := id h
  cases hv
  have H4 := Lib.hid h4
  have H := Lib.hid h
  clear h h4 h5
  go_enter Tryz.func121, Tryz.ntmps121
  go_wp2
  go_loop [3] (fun n => ∃ k : Nat, k ≤ l.length ∧ n = .int .i64 k ∧ Hid (val (l.take k) = val l)) (fun n => (intOf n).toNat)
  case atStart => exact ⟨l.length, Nat.le_refl _, rfl, Lib.hid (by rw [List.take_length])⟩
  case round =>
    obtain ⟨k, hk, rfl, hv⟩ := hrel
    by_cases hk0 : 0 < k
    · obtain ⟨b, off, rfl, hlt, hc0⟩ := H4.out (by intro e; simp at e; subst e; simp at hk; omega)
      have hc := H.out.cell (k - 1) (by omega)
      clear hc0
      by_cases hz : nth l (k - 1) = 0
      · have hz' : ((nth l (k - 1) : Int) == 0) = true := by simp [hz]
        have hzH := Lib.hid hz
        clear hz
        go_wp2
        go_round
        case rel =>
          refine ⟨k - 1, by omega, by go_num, Lib.hid ?_⟩
          rw [← hv.out, show k = k - 1 + 1 from by omega, val_take_succ, Nat.add_sub_cancel, hzH.out]
          simp
        case measure => simp [intOf]; omega
      · have hz' : ((nth l (k - 1) : Int) == 0) = false := by simp [hz]
        have hzH := Lib.hid hz
        clear hz
        go_wp2
        go_ret
        exact ⟨by rw [digs_take h3 hk (Or.inr hzH.out) hv.out, List.length_take, Nat.min_eq_left hk]; rfl, rfl⟩
    · have hk0' : k = 0 := by omega
      subst hk0'
      go_wp2
      go_ret
      exact ⟨by rw [digs_take h3 hk (Or.inl rfl) hv.out]; rfl, rfl⟩

/-- Trimmed words: those of a number, where they lay. -/
theorem rtrim_d {w : World} {v : Value} {l : List Nat} {x : Nat} (h : IsW w v l) (hx : val l = x) :
    Calls Tryz.prog 121 #[v] w fun e w' => (∃ v', e = .returned v' ∧ IsW w v' (digs x) ∧ (∀ b, v'.ownBlock = some b → v.ownBlock = some b)) ∧ w = w' := by
  subst hx
  obtain ⟨a, cap, rfl, h1, h2, h3, h4, h5⟩ := id h
  refine (rtrim_x h).mono ?_
  rintro e w' ⟨rfl, rfl⟩
  exact ⟨⟨_, rfl, h.trimc, fun b hb => by
    cases a with
    | none => simp [Value.ownBlock] at hb
    | some x => simpa [Value.ownBlock] using hb⟩, rfl⟩

set_option maxHeartbeats 400000 in
theorem rorder_l {w : World} {u v : Value} {l m : List Nat} (hu : IsW w u l) (hv : IsW w v m) (hl : Norm l) (hm : Norm m) :
    Calls Tryz.prog 94 #[u, v] w fun e w' => e = .returned (.int .i64 (cmpN (val l) (val m))) ∧ (∃ n, w' = w.drewN n) := by
  obtain ⟨a, cap, rfl, h1, h2, h3, h4, h5⟩ := id hu
  obtain ⟨b, bcap, rfl, k1, k2, k3, k4, k5⟩ := id hv
  have H4 := Lib.hid h4
  have K4 := Lib.hid k4
  have HU := Lib.hid hu
  have HV := Lib.hid hv
  clear h4 k4 h5 k5 hu hv
  by_cases hlen : l.length = m.length
  · have hlen' : ((l.length : Int) != (m.length : Int)) = false := by simp [hlen]
    have HL := Lib.hid hlen
    clear hlen
    go_enter Tryz.func94, Tryz.ntmps94
    go_wp2
    go_loopw [5] (fun i wr => ∃ k : Nat, k ≤ l.length ∧ i = .int .i64 ((k : Int) - 1) ∧ Hid (l.drop k = m.drop k) ∧ ∃ n, wr = w.drewN n) (fun i _ => (intOf i + 1).toNat)
    case atStart => exact ⟨l.length, Nat.le_refl _, rfl, Lib.hid (by rw [List.drop_length, HL.out, List.drop_length]), 0, rfl⟩
    case round =>
      obtain ⟨k, hk, rfl, hd, n, rfl⟩ := hrel
      by_cases hk0 : 0 < k
      · obtain ⟨b1, off1, rfl, -, -⟩ := H4.out (by intro e; simp at e; subst e; simp at hk; omega)
        have hml : k ≤ m.length := by have := HL.out; omega
        obtain ⟨b2, off2, rfl, -, -⟩ := K4.out (by intro e; simp at e; subst e; simp at hml; omega)
        have hc1 := HU.out.cell (k - 1) (by omega)
        have hc2 := HV.out.cell (k - 1) (by have := HL.out; omega)
        have hcmp := Lib.hid (cmp_words (k := k - 1) h3 k3 HL.out (by omega) (by rw [Nat.sub_add_cancel hk0]; exact hd.out))
        rcases Nat.lt_trichotomy (nth l (k - 1)) (nth m (k - 1)) with hlt | heq | hgt
        · have hr : cmpN (val l) (val m) = -1 := by unfold cmpN; rw [if_pos (hcmp.out.1 hlt)]
          have HR := Lib.hid hr
          have hne : ((nth l (k - 1) : Int) != (nth m (k - 1) : Int)) = true := by simp; omega
          clear hr
          go_wp2
          go_quiet (fail)
          go_wp2
          go_quiet (fail)
          go_wp2
          go_ret
          exact ⟨ret_int (by rw [HR.out]), _, by simp only [World.drewN_drewN]; rfl⟩
        · have hd' : Hid (l.drop (k - 1) = m.drop (k - 1)) := Lib.hid (by
            have e1 : k - 1 + 1 = k := by omega
            rw [List.drop_eq_getElem_cons (show k - 1 < l.length by omega), List.drop_eq_getElem_cons (show k - 1 < m.length by omega), e1, hd.out, ← nth_getElem, ← nth_getElem, heq])
          have hne : ((nth l (k - 1) : Int) != (nth m (k - 1) : Int)) = false := by simp [heq]
          clear heq
          go_wp2
          go_quiet (fail)
          go_wp2
          go_roundw
          case rel => exact ⟨k - 1, by omega, by go_num, hd', _, rfl⟩
          case measure => simp [intOf]; omega
        · have hr : cmpN (val l) (val m) = 1 := by unfold cmpN; rw [if_neg (by have := hcmp.out.2 hgt; omega), if_pos (hcmp.out.2 hgt)]
          have HR := Lib.hid hr
          clear hr
          have hge : ¬ nth l (k - 1) < nth m (k - 1) := by omega
          have hne : ((nth l (k - 1) : Int) != (nth m (k - 1) : Int)) = true := by simp; omega
          go_wp2
          go_quiet (fail)
          go_wp2
          go_quiet (fail)
          go_wp2
          go_ret
          exact ⟨ret_int (by rw [HR.out]), _, by simp only [World.drewN_drewN]; rfl⟩
      · have hk0' : k = 0 := by omega
        subst hk0'
        go_wp2
        go_ret
        refine ⟨ret_int ?_, _, rfl⟩
        have : l = m := by simpa using hd.out
        rw [this]; simp [cmpN]
  · have hlen' : ((l.length : Int) != (m.length : Int)) = true := by simp; omega
    by_cases h : l.length < m.length
    · have hr : cmpN (val l) (val m) = -1 := by
        have := val_lt_of_len h3 hm (by rintro rfl; simp at h) h
        unfold cmpN; rw [if_pos this]
      have HR := Lib.hid hr
      clear hr hlen
      go_enter Tryz.func94, Tryz.ntmps94
      go_wp2
      go_ret
      exact ⟨ret_int (by rw [HR.out]), 0, rfl⟩
    · have hlt : m.length < l.length := by omega
      have hr : cmpN (val l) (val m) = 1 := by
        have := val_lt_of_len k3 hl (by rintro rfl; simp at hlt) hlt
        unfold cmpN; rw [if_neg (by omega), if_pos this]
      have HR := Lib.hid hr
      clear hr hlen
      go_enter Tryz.func94, Tryz.ntmps94
      go_wp2
      go_ret
      exact ⟨ret_int (by rw [HR.out]), 0, rfl⟩

theorem rorder_d {w : World} {u v : Value} {x y : Nat} (hu : IsW w u (digs x)) (hv : IsW w v (digs y)) :
    Calls Tryz.prog 94 #[u, v] w fun e w' => e = .returned (.int .i64 (cmpN x y)) ∧ (∃ n, w' = w.drewN n) := by
  have := rorder_l hu hv (norm_digs _) (norm_digs _)
  rwa [val_digs, val_digs] at this
end Go.Proofs.YtafenoohjcpjgaaGreat

/- The reference's words: sums, differences. -/
namespace Go.Proofs.YtafenoohjcpjgaaGreat
open Go.RowKit

theorem lowW_of {a : Int} {n : Nat} (h : a = (n : Int)) (hn : n < 18446744073709551616) : bits .and .u64 a 4294967295 = (lowW n : Int) := by rw [h]; exact lowW_and n hn

end Go.Proofs.YtafenoohjcpjgaaGreat

/- The reference's words: products, division by a word. -/
namespace Go.Proofs.YtafenoohjcpjgaaGreat
open Go.RowKit

theorem mulS_alt1 {x f y : Nat} (hx : x < 4294967296) (hf : f < 4294967296) (hy : y < 4294967296) {c : Nat} (hc : c < 4294967296) :
    IntKind.u64.wrap (((mulS x f y 0 : Nat) : Int) + (c : Int)) = ((mulS x f y c : Nat) : Int) := by
  have h := mulS_lt hx hf hy hc
  have e : ((mulS x f y 0 : Nat) : Int) + (c : Int) = ((mulS x f y c : Nat) : Int) := by unfold mulS; omega
  rw [e]; exact IntWalk.u64_in _ (by omega)

theorem rmulrow_step {l M N : List Nat} {j i c f : Nat} (hi : j + i < N.length) (hsame : nth N (j + i) = nth M (j + i)) (hv : pv N j i + 4294967296 ^ i * c = pv M j i + pv l 0 i * f) :
    pv (N.set (j + i) (lowW (mulS (nth l i) f (nth N (j + i)) c))) j (i + 1) + 4294967296 ^ (i + 1) * (mulS (nth l i) f (nth N (j + i)) c / 4294967296) = pv M j (i + 1) + pv l 0 (i + 1) * f :=
  mulrow_step hi hsame hv

theorem rmulrow_end {l m M N : List Nat} {j c : Nat} (hN : j + m.length < N.length) (hlow : ∀ i, i < j → nth N i = nth M i)
    (hv : pv N j m.length + 4294967296 ^ m.length * c = pv M j m.length + pv m 0 m.length * nth l j) (ho : pv M 0 (j + m.length) = val m * pv l 0 j) :
    pv (N.set (j + m.length) c) 0 (j + 1 + m.length) = val m * pv l 0 (j + 1) :=
  mulrow_end (l := m) (m := l) hN hlow hv ho

set_option maxRecDepth 100000 in
set_option maxHeartbeats 1000000 in
theorem rtimes_l {w : World} {u v : Value} {l m : List Nat} (hu : IsW w u l) (hv : IsW w v m) (hlen : l.length + m.length ≤ 1073741824) :
    Calls Tryz.prog 95 #[u, v] w fun e w' => (∃ r, e = .returned r ∧ IsW w' r (digs (val l * val m)) ∧ (∀ b, r.ownBlock = some b → w.heap.size ≤ b)) ∧ Below w.heap.size w w' := by
  have HU := Lib.hid hu
  have HV := Lib.hid hv
  obtain ⟨a, cap, rfl, h1, h2, h3, h4, h5⟩ := hu
  obtain ⟨b, bcap, rfl, k1, k2, k3, k4, k5⟩ := hv
  have H4 := Lib.hid h4
  have K4 := Lib.hid k4
  clear h3 h4 h5 k3 k4 k5
  go_enter Tryz.func95, Tryz.ntmps95
  go_wp2_with (at_make; refine wpList_make_words rfl _ _ _ _ rfl us iu32 (l.length + m.length) rfl rfl hlen ?_; intro w1 hb1 hbel hs1; refine halt ?_)
  refine go_on ?_
  go_wp2_with fail
  go_loopw [6] (fun i wr => ∃ (j : Nat) (M : List Nat), j ≤ l.length ∧ i = .int .i64 j ∧ Blk wr w.heap.size 125 M ∧ Hid (Ws M) ∧ Hid (M.length = l.length + m.length) ∧ Below w.heap.size w wr ∧
      Hid (pv M 0 (j + m.length) = val m * pv l 0 j)) (fun i _ => l.length - (intOf i).toNat)
  case atStart => exact ⟨0, _, Nat.zero_le _, rfl, hb1, Lib.hid (ws_replicate _), Lib.hid (by simp), hbel, Lib.hid (by rw [pv_replicate, pv_zero]; simp)⟩
  case round =>
    obtain ⟨j, M, hj, rfl, hM, hMw, hMl, hon, hval⟩ := hrel
    obtain ⟨wo, rfl⟩ : ∃ wo : World, wo = wr := ⟨_, rfl⟩
    by_cases hjl : j < l.length
    · obtain ⟨ab, aoff, rfl, halt, -⟩ := H4.out (by intro e; simp at e; subst e; simp at hjl)
      have hf := ws_nth HU.out.ws j
      go_wp2_with fail
      go_loopw [7, 8] (fun c i wr => ∃ (t cr : Nat) (N : List Nat), t ≤ m.length ∧ i = .int .i64 t ∧ c = .int .u64 cr ∧ cr < 4294967296 ∧ Blk wr w.heap.size 125 N ∧ Hid (Ws N) ∧ Hid (N.length = l.length + m.length) ∧ Below w.heap.size w wr ∧
        Hid (∀ x, (x < j ∨ j + t ≤ x) → nth N x = nth M x) ∧ Hid (pv N j t + 4294967296 ^ t * cr = pv M j t + pv m 0 t * nth l j)) (fun _ i _ => m.length - (intOf i).toNat)
      case atStart => exact ⟨0, 0, M, Nat.zero_le _, rfl, rfl, by omega, hM, hMw, hMl, hon, Lib.hid (fun _ _ => rfl), Lib.hid (by simp [pv_zero])⟩
      case round =>
        obtain ⟨t, cr, N, ht, rfl, rfl, hcr, hN, hNw, hNl, hon2, hsame, hval2⟩ := hrel
        by_cases htl : t < m.length
        · obtain ⟨bb, boff, rfl, hblt, -⟩ := K4.out (by intro e; simp at e; subst e; simp at htl)
          have hca0 := HU.out.cell j hjl
          have hca : wr.cell? ⟨ab, aoff + j, none⟩ = some (.int .u32 (nth l j)) := by rw [hon2.cell (p := ⟨ab, aoff + j, none⟩) halt]; exact hca0
          have hcb0 := HV.out.cell t htl
          have hcb : wr.cell? ⟨bb, boff + t, none⟩ = some (.int .u32 (nth m t)) := by rw [hon2.cell (p := ⟨bb, boff + t, none⟩) hblt]; exact hcb0
          have hx := ws_nth HV.out.ws t
          have hy := ws_nth hNw.out (j + t)
          have hcN := hN.cell (j + t) (by have := hNl.out; omega)
          have hfree := hN.free (j + t)
          have w1 : IntKind.u64.wrap ((nth l j : Int) * (nth m t : Int)) = ((mulS (nth m t) (nth l j) 0 0 : Nat) : Int) := by rw [Int.mul_comm]; exact mulS_wrap1 hx hf
          have w2 := mulS_wrap2 hx hf hy
          have w3 := mulS_alt1 hx hf hy hcr
          have w4 := mulS_lt hx hf hy hcr
          have w5 := lowW_and _ w4
          have hlw : lowW (mulS (nth m t) (nth l j) (nth N (j + t)) cr) < 4294967296 := Nat.mod_lt _ (by omega)
          have hst := Lib.hid (rmulrow_step (l := m) (M := M) (N := N) (j := j) (i := t) (c := cr) (f := nth l j) (by have := hNl.out; omega) (hsame.out _ (by omega)) hval2.out)
          clear hca0 hcb0
          go_wp2_with fail
          go_quiet (fail)
          go_wp2_with fail
          go_roundw
          case rel =>
            exact ⟨t + 1, mulS (nth m t) (nth l j) (nth N (j + t)) cr / 4294967296, N.set (j + t) (lowW (mulS (nth m t) (nth l j) (nth N (j + t)) cr)), by omega, by go_num, by go_num, by omega,
              hN.setCell (j + t) _ _ (by unfold U; go_num), Lib.hid (ws_set hNw.out _ hlw), Lib.hid (by rw [List.length_set]; exact hNl.out), (below_drewN hon2 nq).setCell (Nat.le_refl _) _,
              Lib.hid (fun x hx => by rw [nth_set_ne _ _ _ _ (by omega)]; exact hsame.out x (by omega)), hst⟩
          case measure => simp [intOf]; omega
        · obtain rfl : t = m.length := by omega
          have hfree := hN.free (j + m.length)
          have hcN := hN.cell (j + m.length) (by have := hNl.out; omega)
          go_wp2_with fail
          go_roundw
          case rel =>
            exact ⟨j + 1, N.set (j + m.length) cr, by omega, by go_num, hN.setCell (j + m.length) _ _ (by unfold U; go_num), Lib.hid (ws_set hNw.out _ hcr), Lib.hid (by rw [List.length_set]; exact hNl.out), hon2.setCell (Nat.le_refl _) _,
              Lib.hid (rmulrow_end (by have := hNl.out; omega) (fun x hx => hsame.out x (Or.inl hx)) hval2.out hval.out)⟩
          case measure => simp [intOf]; omega
    · obtain rfl : j = l.length := by omega
      have hMv : Hid (val M = val l * val m) := Lib.hid (by
        have h := hval.out
        rw [pv_eq_val (by have := hMl.out; omega), pv_eq_val rfl] at h
        rw [h, Nat.mul_comm])
      have hI := hM.isW_all hMw.out (l.length + m.length) (by have := hMl.out; omega) (by have := hMl.out; omega)
      rw [hMl.out] at hI
      have HI := Lib.hid hI
      clear hI
      go_wp2_with fail
      refine (rtrim_d HI.out hMv.out).mono ?_
      rintro en w4 ⟨⟨r, rfl, hr, hown⟩, rfl⟩
      go_wp2_with fail
      go_ret
      refine ⟨⟨r, rfl, hr, fun x hx => ?_⟩, hon⟩
      have := hown x hx
      simp [Value.ownBlock] at this
      omega

theorem rtimes_w {w : World} {u v : Value} {x y : Nat} (hu : IsW w u (digs x)) (hv : IsW w v (digs y)) (hlen : (digs x).length + (digs y).length ≤ 1073741824) :
    Calls Tryz.prog 95 #[u, v] w fun e w' => (∃ r, e = .returned r ∧ IsW w' r (digs (x * y)) ∧ (∀ b, r.ownBlock = some b → w.heap.size ≤ b)) ∧ Below w.heap.size w w' := by
  have := rtimes_l hu hv hlen
  rwa [val_digs, val_digs] at this

/-! ### Division by a word -/
theorem hdiv_step {L M : List Nat} {k n r by_ : Nat} (hk : 0 < k) (hkn : k ≤ n) (hn : n ≤ M.length) (hv : by_ * pv M k (n - k) + r = pv L k (n - k)) :
    by_ * pv (M.set (k - 1) (quoW (twoW r (nth L (k - 1))) by_)) (k - 1) (n - (k - 1)) + twoW r (nth L (k - 1)) % by_ = pv L (k - 1) (n - (k - 1)) := by
  have e : n - (k - 1) = (n - k) + 1 := by omega
  have ek : k - 1 + 1 = k := by omega
  rw [e, pv_head, pv_head, nth_set_self _ _ _ (by omega), ek, pv_congr (m := M) (fun j _ => nth_set_ne _ _ _ _ (by omega)), ← hv]
  have h := Nat.mod_add_div (twoW r (nth L (k - 1))) by_
  unfold quoW
  generalize twoW r (nth L (k - 1)) / by_ = q at *
  generalize twoW r (nth L (k - 1)) % by_ = d at *
  unfold twoW at h
  grind

set_option maxHeartbeats 400000 in
theorem rhalves_l {w : World} {u : Value} {l : List Nat} {by_ : Nat} (hu : IsW w u l) (hb0 : 0 < by_) (hb : by_ < 4294967296) :
    Calls Tryz.prog 162 #[u, .int .u32 by_] w fun en w' => (∃ q, en = .returned (.tuple #[q, .int .u32 (val l % by_ : Nat)]) ∧ IsW w' q (digs (val l / by_)) ∧ (∀ b, q.ownBlock = some b → w.heap.size ≤ b)) ∧ Below w.heap.size w w' := by
  have HU := Lib.hid hu
  have hll := hu.len
  obtain ⟨a, cap, rfl, h1, h2, h3, h4, h5⟩ := hu
  have H4 := Lib.hid h4
  clear h3 h4 h5
  have hb00 : ((by_ : Int) == 0) = false := by simp; omega
  go_enter Tryz.func162, Tryz.ntmps162
  go_wp2_with (at_make; refine wpList_make_words rfl _ _ _ _ rfl us iu32 l.length rfl rfl hll ?_; intro w1 hb1 hbel hs1; refine halt ?_)
  refine go_on ?_
  go_wp2_with fail
  go_loopw [7, 8] (fun c i wr => ∃ (k r : Nat) (M : List Nat), k ≤ l.length ∧ i = .int .i64 ((k : Int) - 1) ∧ c = .int .u64 r ∧ r < by_ ∧ Blk wr w.heap.size 125 M ∧ Hid (Ws M) ∧ Hid (M.length = l.length) ∧ Below w.heap.size w wr ∧
      Hid (by_ * pv M k (l.length - k) + r = pv l k (l.length - k))) (fun _ i _ => (intOf i + 1).toNat)
  case atStart => exact ⟨l.length, 0, _, Nat.le_refl _, rfl, rfl, hb0, hb1, Lib.hid (ws_replicate _), Lib.hid (by simp), hbel, Lib.hid (by simp [pv_zero])⟩
  case round =>
    obtain ⟨k, r, M, hk, rfl, rfl, hr, hM, hMw, hMl, hon, hval⟩ := hrel
    by_cases hk0 : 0 < k
    · have hx := ws_nth HU.out.ws (k - 1)
      obtain ⟨b1, off1, rfl, hlt1, -⟩ := H4.out (by intro e; simp at e; subst e; simp at hk; omega)
      have hc01 := HU.out.cell (k - 1) (by omega)
      have hc1 : wr.cell? ⟨b1, off1 + (k - 1), none⟩ = some (.int .u32 (nth l (k - 1))) := by rw [hon.cell (p := ⟨b1, off1 + (k - 1), none⟩) hlt1]; exact hc01
      have hcellM := hM.cell (k - 1) (by have := hMl.out; omega)
      have hfree := hM.free (k - 1)
      have w1 := u64_twoW (show r < 4294967296 by omega) hx
      have w2 := twoW_lt (show r < 4294967296 by omega) hx
      have hq : quoW (twoW r (nth l (k - 1))) by_ < 4294967296 := by
        unfold quoW twoW
        have : by_ * (r + 1) ≤ by_ * by_ := Nat.mul_le_mul_left _ hr
        refine Nat.div_lt_of_lt_mul ?_
        have h2 : (r + 1) * 4294967296 ≤ by_ * 4294967296 := Nat.mul_le_mul_right _ hr
        omega
      have w3 := quoW_wrap (twoW r (nth l (k - 1))) by_ (by omega)
      have hst := Lib.hid (hdiv_step (L := l) (M := M) (n := l.length) hk0 hk (by have := hMl.out; omega) hval.out)
      clear hc01
      go_wp2_with fail
      go_roundw
      case rel =>
        exact ⟨k - 1, twoW r (nth l (k - 1)) % by_, M.set (k - 1) (quoW (twoW r (nth l (k - 1))) by_), by omega, by go_num, by rw [← Int.natCast_emod], Nat.mod_lt _ hb0,
          hM.setCell _ _ _ (by unfold U; go_num), Lib.hid (ws_set hMw.out _ hq), Lib.hid (by rw [List.length_set]; exact hMl.out), hon.setCell (Nat.le_refl _) _, hst⟩
      case measure => simp [intOf]; omega
    · obtain rfl : k = 0 := by omega
      have h1 : Hid (val l % by_ = r ∧ val M = val l / by_) := Lib.hid (by
        have h2 := hval.out
        rw [Nat.sub_zero, pv_eq_val rfl, pv_eq_val hMl.out] at h2
        rw [← h2]
        exact ⟨by rw [Nat.mul_add_mod, Nat.mod_eq_of_lt hr], by rw [Nat.mul_add_div hb0, Nat.div_eq_of_lt hr, Nat.add_zero]⟩)
      have hr2 : r < 4294967296 := by omega
      have hI := hM.isW_all hMw.out l.length (by have := hMl.out; omega) (by have := hMl.out; omega)
      rw [hMl.out] at hI
      have HI := Lib.hid hI
      clear hI
      go_wp2_with fail
      refine (rtrim_d HI.out h1.out.2).mono ?_
      rintro en w4 ⟨⟨q, rfl, hq, hown⟩, rfl⟩
      go_wp2_with fail
      go_ret2
      refine ⟨⟨q, by rw [h1.out.1]; rfl, hq, fun x hx => ?_⟩, hon⟩
      have := hown x hx
      simp [Value.ownBlock] at this
      omega
theorem rhalves_w {w : World} {u : Value} {x by_ : Nat} (hu : IsW w u (digs x)) (hb0 : 0 < by_) (hb : by_ < 4294967296) :
    Calls Tryz.prog 162 #[u, .int .u32 by_] w fun en w' => (∃ q, en = .returned (.tuple #[q, .int .u32 (x % by_ : Nat)]) ∧ IsW w' q (digs (x / by_)) ∧ (∀ b, q.ownBlock = some b → w.heap.size ≤ b)) ∧ Below w.heap.size w w' := by
  have := rhalves_l hu hb0 hb
  rwa [val_digs] at this
end Go.Proofs.YtafenoohjcpjgaaGreat

/- The reference's words: shifts, small numbers. -/
namespace Go.Proofs.YtafenoohjcpjgaaGreat
open Go.RowKit

theorem or_add_low {a b s : Nat} (ha : a < 2 ^ s) : a ||| (b * 2 ^ s) = a + b * 2 ^ s := by
  rw [Nat.or_comm, Nat.mul_comm]
  have := Nat.two_pow_add_eq_or_of_lt ha b
  omega

/-- The lower word of a word shifted is so many times 2^s. -/
theorem low_mul {x s : Nat} (hs : s < 32) : lowW (shlU x s) = (x % 2 ^ (32 - s)) * 2 ^ s := by
  unfold lowW shlU
  have e : (4294967296 : Nat) = 2 ^ (32 - s) * 2 ^ s := by rw [← Nat.pow_add, show 32 - s + s = 32 by omega]
  rw [e, Nat.mul_mod_mul_right]
/-- What stands at a place once the lower word of the next has come in. -/
theorem shf_or {c x s : Nat} (hc : c < 2 ^ s) (hs : s < 32) : bits .or .u32 (c : Int) (lowW (shlU x s) : Int) = ((c + lowW (shlU x s) : Nat) : Int) := by
  have h1 : 2 ^ s ≤ 2 ^ 31 := Nat.pow_le_pow_right (by omega) (by omega)
  have h2 : lowW (shlU x s) < 4294967296 := Nat.mod_lt _ (by omega)
  rw [u32_or_nat c _ (by omega) h2, low_mul hs, or_add_low hc]
theorem shf_fit {c x s : Nat} (hc : c < 2 ^ s) (hs : s < 32) : c + lowW (shlU x s) < 4294967296 := by
  rw [low_mul hs]
  have e : (4294967296 : Nat) = 2 ^ (32 - s) * 2 ^ s := by rw [← Nat.pow_add, show 32 - s + s = 32 by omega]
  rw [e]
  have h : x % 2 ^ (32 - s) + 1 ≤ 2 ^ (32 - s) := Nat.mod_lt _ (Nat.pow_pos (by omega))
  have := Nat.mul_le_mul_right (2 ^ s) h
  rw [Nat.add_mul, Nat.one_mul] at this
  omega
theorem shf_high {x s : Nat} (hx : x < 4294967296) : shlU x s / 4294967296 < 2 ^ s := by
  unfold shlU
  exact Nat.div_lt_of_lt_mul (Nat.mul_lt_mul_of_pos_right hx (Nat.pow_pos (by omega)))

theorem shf_step {l M : List Nat} {k c s : Nat} (hk : k + 1 < M.length) (hc : c = nth M k) (hv : pv M 0 (k + 1) = pv l 0 k * 2 ^ s) :
    pv ((M.set k (c + lowW (shlU (nth l k) s))).set (k + 1) (shlU (nth l k) s / 4294967296)) 0 (k + 1 + 1) = pv l 0 (k + 1) * 2 ^ s := by
  have e := pv_set (M.set k (c + lowW (shlU (nth l k) s))) 0 (k + 1) (shlU (nth l k) s / 4294967296) (by simp; omega)
  rw [Nat.zero_add] at e
  have e2 := pv_set M 0 k (c + lowW (shlU (nth l k) s)) (by omega)
  rw [Nat.zero_add] at e2
  rw [e, e2, pv_succ l, Nat.zero_add, Nat.add_mul, ← hv, pv_succ M, Nat.zero_add, ← hc]
  have h := Nat.mod_add_div (shlU (nth l k) s) 4294967296
  unfold lowW
  generalize hq : shlU (nth l k) s / 4294967296 = q at *
  generalize hd : shlU (nth l k) s % 4294967296 = d at *
  unfold shlU at h
  rw [Nat.pow_succ]
  generalize 4294967296 ^ k = p at *
  generalize 2 ^ s = t at *
  have : p * (d + 4294967296 * q) = p * (nth l k * t) := by rw [h]
  grind

set_option maxRecDepth 4000 in
set_option maxHeartbeats 1000000 in
theorem rshift_l {w : World} {v : Value} {l : List Nat} (h : IsW w v l) (s : Nat) (hs : s < 32) (hl : l.length < 1073741824) :
    Calls Tryz.prog 163 #[v, .int .u64 s] w fun e w' => (∃ M, e = .returned (.slice (some ⟨w.heap.size, 0, none⟩) (l.length + 1) (l.length + 1)) ∧ Blk w' w.heap.size 125 M ∧ Ws M ∧ M.length = l.length + 1 ∧ val M = val l * 2 ^ s) ∧ Below w.heap.size w w' ∧ w'.heap.size = w.heap.size + 1 := by
  have H := Lib.hid h
  obtain ⟨a, cap, rfl, h1, h2, h3, h4, h5⟩ := h
  have H4 := Lib.hid h4
  clear h3 h4 h5
  go_enter Tryz.func163, Tryz.ntmps163
  go_wp2_with (at_make; refine wpList_make_words rfl _ _ _ _ rfl us iu32 (l.length + 1) rfl rfl hl ?_; intro w1 hb1 hbel hs1; refine halt ?_)
  refine go_on ?_
  go_wp2_with fail
  go_loopw [6] (fun i wr => ∃ (k : Nat) (M : List Nat), k ≤ l.length ∧ i = .int .i64 k ∧ Blk wr w.heap.size 125 M ∧ Hid (Ws M) ∧ Hid (M.length = l.length + 1) ∧ Below w.heap.size w wr ∧
      Hid (wr.heap.size = w.heap.size + 1) ∧ Hid (nth M k < 2 ^ s) ∧ Hid (∀ j, k < j → nth M j = 0) ∧ Hid (pv M 0 (k + 1) = pv l 0 k * 2 ^ s)) (fun i _ => l.length - (intOf i).toNat)
  case atStart => exact ⟨0, _, Nat.zero_le _, rfl, hb1, Lib.hid (ws_replicate _), Lib.hid (by simp), hbel, hs1, Lib.hid (by rw [nth_replicate]; exact Nat.pow_pos (by omega)), Lib.hid (fun j _ => nth_replicate _ _), Lib.hid (by rw [pv_replicate, pv_zero]; simp)⟩
  case round =>
    obtain ⟨k, M, hk, rfl, hM, hMw, hMl, hon, hsz, hc, hz, hval⟩ := hrel
    by_cases hkn : k < l.length
    · have hx := ws_nth H.out.ws k
      obtain ⟨b, off, rfl, hlt, -⟩ := H4.out (by intro e; simp at e; subst e; simp at hkn)
      have hcell0 := H.out.cell k hkn
      have hcell : wr.cell? ⟨b, off + k, none⟩ = some (.int .u32 (nth l k)) := by rw [hon.cell (p := ⟨b, off + k, none⟩) hlt]; exact hcell0
      have hcellM := hM.cell k (by have := hMl.out; omega)
      have hcellN := hM.cell (k + 1) (by have := hMl.out; omega)
      rw [hz.out (k + 1) (by omega)] at hcellN
      have hfree := hM.free k
      have hfree2 := hM.free (k + 1)
      have w1 := shlU_wrap hx hs
      have w0 := shlU_lt hx hs
      have w2 := lowW_and (shlU (nth l k) s) (by omega)
      have w3 := shf_or (x := nth l k) hc.out hs
      have w4 := shf_fit (x := nth l k) hc.out hs
      have w5 : shlU (nth l k) s / 4294967296 < 4294967296 := Nat.lt_trans (shf_high (s := s) hx) (Nat.lt_of_lt_of_le (Nat.pow_lt_pow_right (by omega) hs) (Nat.le_refl _))
      have w6 : lowW (shlU (nth l k) s) < 4294967296 := Nat.mod_lt _ (by omega)
      have w7 : bits .or .u32 0 ((shlU (nth l k) s : Int) / 4294967296) = ((shlU (nth l k) s / 4294967296 : Nat) : Int) := by
        have h9 := u32_or_nat 0 (shlU (nth l k) s / 4294967296) (by omega) w5
        rw [Nat.zero_or] at h9
        rw [← h9]; congr 1
      have hst := Lib.hid (shf_step (l := l) (M := M) (k := k) (s := s) (by have := hMl.out; omega) rfl hval.out)
      clear hcell0
      go_wp2_with fail
      go_roundw
      case rel =>
        exact ⟨k + 1, (M.set k (nth M k + lowW (shlU (nth l k) s))).set (k + 1) (shlU (nth l k) s / 4294967296), by omega, by go_num,
          (hM.setCell k _ _ (by unfold U; go_num)).setCell (k + 1) _ _ (by unfold U; go_num), Lib.hid (ws_set (ws_set hMw.out _ w4) _ w5), Lib.hid (by rw [List.length_set, List.length_set]; exact hMl.out),
          (hon.setCell (Nat.le_refl _) _).setCell (Nat.le_refl _) _, Lib.hid (by have := hsz.out; simpa [World.setCell] using this),
          Lib.hid (by rw [nth_set_self _ _ _ (by have := hMl.out; simp; omega)]; exact shf_high hx),
          Lib.hid (fun j hj => by rw [nth_set_ne _ _ _ _ (by omega), nth_set_ne _ _ _ _ (by omega)]; exact hz.out j (by omega)), hst⟩
      case measure => simp [intOf]; omega
    · obtain rfl : k = l.length := by omega
      go_wp2_with fail
      go_ret
      refine ⟨⟨M, rfl, hM, hMw.out, hMl.out, ?_⟩, hon, hsz.out⟩
      have h9 := hval.out
      rw [pv_eq_val hMl.out, pv_eq_val rfl] at h9
      exact h9

theorem u64_twoW' {hi lo : Nat} (h : hi < 4294967296) (k : lo < 4294967296) : bits .or .u64 (lo : Int) ((hi : Int) * 4294967296) = (twoW hi lo : Int) := by
  have h1 := u64_or_nat lo (hi * 4294967296) (by omega) (by omega)
  have h2 : lo ||| hi * 4294967296 = twoW hi lo := by
    have := or_add_low (a := lo) (b := hi) (s := 32) k
    unfold twoW; rw [show (4294967296 : Nat) = 2 ^ 32 from rfl, this]; omega
  rw [h2] at h1
  rw [← h1]
  congr 1

theorem shr_low {x : Nat} (s : Nat) (hx : x < 18446744073709551616) : bits .and .u64 ((x : Int) / 2 ^ s) 4294967295 = (lowW (x / 2 ^ s) : Int) :=
  lowW_of (by rw [Int.natCast_ediv]; simp) (by have := Nat.div_le_self x (2 ^ s); omega)

set_option maxHeartbeats 400000 in
theorem rback_l {w : World} {v : Value} {l : List Nat} (h : IsW w v l) (s : Nat) (hs : s < 32) :
    Calls Tryz.prog 164 #[v, .int .u64 s] w fun e w' => (∃ r, e = .returned r ∧ IsW w' r (digs (val l / 2 ^ s)) ∧ (∀ b, r.ownBlock = some b → w.heap.size ≤ b)) ∧ Below w.heap.size w w' := by
  have H := Lib.hid h
  obtain ⟨a, cap, rfl, h1, h2, h3, h4, h5⟩ := h
  have H4 := Lib.hid h4
  clear h3 h4 h5
  go_enter Tryz.func164, Tryz.ntmps164
  go_wp2_with (at_make; refine wpList_make_words rfl _ _ _ _ rfl us iu32 l.length rfl rfl h2 ?_; intro w1 hb1 hbel hs1; refine halt ?_)
  refine go_on ?_
  go_wp2_with fail
  go_loopw [6] (fun i wr => ∃ (k : Nat) (M : List Nat), k ≤ l.length ∧ i = .int .i64 k ∧ Blk wr w.heap.size 125 M ∧ Hid (Ws M) ∧ Hid (M.length = l.length) ∧ Below w.heap.size w wr ∧
      Hid (pv M 0 k = val l / 2 ^ s % 4294967296 ^ k)) (fun i _ => l.length - (intOf i).toNat)
  case atStart => exact ⟨0, _, Nat.zero_le _, rfl, hb1, Lib.hid (ws_replicate _), Lib.hid (by simp), hbel, Lib.hid (by simp [pv_zero, Nat.mod_one])⟩
  case round =>
    obtain ⟨k, M, hk, rfl, hM, hMw, hMl, hon, hval⟩ := hrel
    by_cases hkn : k < l.length
    · have hx := ws_nth H.out.ws k
      have hy := ws_nth H.out.ws (k + 1)
      obtain ⟨b, off, rfl, hlt, -⟩ := H4.out (by intro e; simp at e; subst e; simp at hkn)
      have hcell0 := H.out.cell k hkn
      have hcell : wr.cell? ⟨b, off + k, none⟩ = some (.int .u32 (nth l k)) := by rw [hon.cell (p := ⟨b, off + k, none⟩) hlt]; exact hcell0
      have hcellM := hM.cell k (by have := hMl.out; omega)
      have hfree := hM.free k
      have w3 : lowW (twoW (nth l (k + 1)) (nth l k) / 2 ^ s) < 4294967296 := Nat.mod_lt _ (by omega)
      have hst := Lib.hid (shr_step H.out.ws hs (M := M) (k := k) (by have := hMl.out; omega) hval.out)
      clear hcell0
      by_cases hk1 : k + 1 < l.length
      · have hcell1 := H.out.cell (k + 1) hk1
        have hcelln : wr.cell? ⟨b, off + (k + 1), none⟩ = some (.int .u32 (nth l (k + 1))) := by rw [hon.cell (p := ⟨b, off + (k + 1), none⟩) hlt]; exact hcell1
        have w1 := u64_twoW' hy hx
        have w2 := twoW_lt hy hx
        have w4 := shr_low (x := twoW (nth l (k + 1)) (nth l k)) s w2
        clear hcell1
        go_wp2_with fail
        go_roundw
        case rel =>
          exact ⟨k + 1, M.set k (lowW (twoW (nth l (k + 1)) (nth l k) / 2 ^ s)), by omega, by go_num, hM.setCell k _ _ (by unfold U; go_num), Lib.hid (ws_set hMw.out _ w3),
            Lib.hid (by rw [List.length_set]; exact hMl.out), hon.setCell (Nat.le_refl _) _, hst⟩
        case measure => simp [intOf]; omega
      · have h0 : nth l (k + 1) = 0 := nth_out (by omega)
        have e0 : twoW (nth l (k + 1)) (nth l k) = nth l k := by rw [h0]; unfold twoW; omega
        rw [e0] at hst w3
        have w4 := shr_low (x := nth l k) s (by omega)
        clear h0 e0 hy
        go_wp2_with fail
        go_roundw
        case rel =>
          exact ⟨k + 1, M.set k (lowW (nth l k / 2 ^ s)), by omega, by go_num, hM.setCell k _ _ (by unfold U; go_num), Lib.hid (ws_set hMw.out _ w3),
            Lib.hid (by rw [List.length_set]; exact hMl.out), hon.setCell (Nat.le_refl _) _, hst⟩
        case measure => simp [intOf]; omega
    · obtain rfl : k = l.length := by omega
      have hMv : Hid (val M = val l / 2 ^ s) := Lib.hid (by
        have h1 := hval.out
        rw [pv_eq_val hMl.out] at h1
        rw [h1]
        exact Nat.mod_eq_of_lt (Nat.lt_of_le_of_lt (Nat.div_le_self _ _) (val_lt H.out.ws)))
      have hI := hM.isW_all hMw.out l.length (by have := hMl.out; omega) (by have := hMl.out; omega)
      rw [hMl.out] at hI
      have HI := Lib.hid hI
      clear hI
      go_wp2_with fail
      refine (rtrim_d HI.out hMv.out).mono ?_
      rintro en w4 ⟨⟨r, rfl, hr, hown⟩, rfl⟩
      go_wp2_with fail
      go_ret
      refine ⟨⟨r, rfl, hr, fun x hx => ?_⟩, hon⟩
      have := hown x hx
      simp [Value.ownBlock] at this
      omega
end Go.Proofs.YtafenoohjcpjgaaGreat

/- The reference's words: numbers of two words, 1. -/
namespace Go.Proofs.YtafenoohjcpjgaaGreat
open Go.RowKit

theorem rone_w {w : World} :
    Calls Tryz.prog 116 #[] w fun e w' => (∃ r, e = .returned r ∧ IsW w' r (digs 1) ∧ (∀ b, r.ownBlock = some b → w.heap.size ≤ b)) ∧ Below w.heap.size w w' := by
  go_enter Tryz.func116, Tryz.ntmps116
  go_wp2_with fail
  have hB : Blk (w.alloc (Obj.cells #[Value.int IntKind.u32 1] 125)) w.heap.size 125 [1] := by
    show (w.heap.push _)[w.heap.size]? = _
    simp [U]
  have h1 : digs 1 = [1] := by unfold digs; simp [digs]
  have hI := hB.isW_all (by intro x hx; simp at hx; omega) 1 (by simp) (by simp)
  go_ret
  refine ⟨⟨_, rfl, h1 ▸ hI, fun x hx => ?_⟩, (Below.refl _ _).alloc (Nat.le_refl _) _⟩
  simp [Value.ownBlock] at hx
  omega

set_option maxHeartbeats 400000 in
theorem rwide_w {w : World} (n : Nat) (hn : n < 18446744073709551616) :
    Calls Tryz.prog 141 #[.int .u64 n] w fun e w' => (∃ r, e = .returned r ∧ IsW w' r (digs n) ∧ (∀ b, r.ownBlock = some b → w.heap.size ≤ b)) ∧ Below w.heap.size w w' := by
  have w1 := lowW_and n hn
  have hl : lowW n < 4294967296 := Nat.mod_lt _ (by omega)
  have hh : n / 4294967296 < 4294967296 := by omega
  go_enter Tryz.func141, Tryz.ntmps141
  go_wp2_with fail
  have hB : Blk (w.alloc (Obj.cells #[Value.int IntKind.u32 (lowW n : Int), Value.int IntKind.u32 ((n : Int) / 4294967296)] 125)) w.heap.size 125 [n % 4294967296, n / 4294967296] := by
    show (w.heap.push _)[w.heap.size]? = _
    simp [U, lowW]
  have hI := hB.isW_all (two_words n hn).1 2 (by simp) (by simp)
  have HI := Lib.hid hI
  clear hB hI
  refine (rtrim_d HI.out (two_words n hn).2).mono ?_
  rintro en w4 ⟨⟨r, rfl, hr, hown⟩, rfl⟩
  go_wp2_with fail
  go_ret
  refine ⟨⟨r, rfl, hr, fun x hx => ?_⟩, (Below.refl _ _).alloc (Nat.le_refl _) _⟩
  have := hown x hx
  simp [Value.ownBlock] at this
  omega

set_option maxHeartbeats 400000 in
theorem rsmall_l {w : World} {v : Value} {l : List Nat} (h : IsW w v l) (hl : l.length ≤ 2) :
    Calls Tryz.prog 140 #[v] w fun e w' => e = .returned (.int .u64 (val l)) ∧ w = w' := by
  have H := Lib.hid h
  obtain ⟨a, cap, rfl, h1, h2, h3, h4, h5⟩ := id h
  have H4 := Lib.hid h4
  clear h h3 h4 h5
  go_enter Tryz.func140, Tryz.ntmps140
  go_wp2_with fail
  go_loop [3, 4] (fun n i => ∃ k : Nat, k ≤ l.length ∧ i = .int .i64 ((k : Int) - 1) ∧ n = .int .u64 (val (l.drop k) : Nat)) (fun _ i => (intOf i + 1).toNat)
  case atStart => exact ⟨l.length, Nat.le_refl _, rfl, by rw [List.drop_length]; rfl⟩
  case round =>
    obtain ⟨k, hk, rfl, rfl⟩ := hrel
    by_cases hk0 : 0 < k
    · have hx := ws_nth H.out.ws (k - 1)
      obtain ⟨b, off, rfl, hlt, -⟩ := H4.out (by intro e; simp at e; subst e; simp at hk; omega)
      have hcell := H.out.cell (k - 1) (by omega)
      obtain ⟨hi, hhi⟩ : ∃ hi, hi = val (l.drop k) := ⟨_, rfl⟩
      have hhib : hi < 4294967296 := by
        rw [hhi]
        have h9 := val_lt (ws_drop H.out.ws k)
        have h8 : 4294967296 ^ (l.drop k).length ≤ 4294967296 ^ 1 := Nat.pow_le_pow_right (by omega) (by rw [List.length_drop]; omega)
        omega
      have hnx : Hid (val (l.drop (k - 1)) = twoW hi (nth l (k - 1))) := Lib.hid (by
        rw [val_drop_succ, Nat.sub_add_cancel hk0, ← hhi]; unfold twoW; omega)
      rw [← hhi]
      have w1 := u64_twoW hhib hx
      clear hhi
      go_wp2_with fail
      go_round
      case rel => exact ⟨k - 1, by omega, by go_num, by rw [hnx.out]⟩
      case measure => simp [intOf]; omega
    · obtain rfl : k = 0 := by omega
      go_wp2_with fail
      go_ret
      exact ⟨by simp, rfl⟩
theorem rsmall_d {w : World} {v : Value} {x : Nat} (h : IsW w v (digs x)) (hl : (digs x).length ≤ 2) :
    Calls Tryz.prog 140 #[v] w fun e w' => e = .returned (.int .u64 x) ∧ w = w' := by
  have := rsmall_l h hl
  rwa [val_digs] at this
end Go.Proofs.YtafenoohjcpjgaaGreat
