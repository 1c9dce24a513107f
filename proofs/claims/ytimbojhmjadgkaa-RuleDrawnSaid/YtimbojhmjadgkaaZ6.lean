/- Several texts in one: Wh. -/
import Derived.Test.YtimbojhmjadgkaaZ5
/- Products, word by word. -/
namespace Go.Proofs.Ytimbojhmjadgkaa
open Go.RowKit

/-- A word's part of a product, under a name. -/
def mulS (x f y c : Nat) : Nat := c + (x * f + y)
theorem mulS_lt {x f y c : Nat} (hx : x < 4294967296) (hf : f < 4294967296) (hy : y < 4294967296) (hc : c < 4294967296) : mulS x f y c < 18446744073709551616 := by
  unfold mulS
  have := Nat.mul_le_mul (Nat.le_of_lt_succ (show x < 4294967295 + 1 by omega)) (Nat.le_of_lt_succ (show f < 4294967295 + 1 by omega))
  omega
theorem mulS_wrap1 {x f : Nat} (hx : x < 4294967296) (hf : f < 4294967296) : IntKind.u64.wrap ((x : Int) * (f : Int)) = ((mulS x f 0 0 : Nat) : Int) := by
  have h := mulS_lt hx hf (show 0 < 4294967296 by omega) (show 0 < 4294967296 by omega)
  have e : (x : Int) * (f : Int) = ((mulS x f 0 0 : Nat) : Int) := by unfold mulS; simp
  rw [e]; exact IntWalk.u64_in _ (by omega)
theorem mulS_wrap2 {x f y : Nat} (hx : x < 4294967296) (hf : f < 4294967296) (hy : y < 4294967296) : IntKind.u64.wrap (((mulS x f 0 0 : Nat) : Int) + (y : Int)) = ((mulS x f y 0 : Nat) : Int) := by
  have h := mulS_lt hx hf hy (show 0 < 4294967296 by omega)
  have e : ((mulS x f 0 0 : Nat) : Int) + (y : Int) = ((mulS x f y 0 : Nat) : Int) := by unfold mulS; simp
  rw [e]; exact IntWalk.u64_in _ (by omega)
theorem mulS_wrap3 {x f y c : Nat} (hx : x < 4294967296) (hf : f < 4294967296) (hy : y < 4294967296) (hc : c < 4294967296) : IntKind.u64.wrap ((c : Int) + ((mulS x f y 0 : Nat) : Int)) = ((mulS x f y c : Nat) : Int) := by
  have h := mulS_lt hx hf hy hc
  have e : (c : Int) + ((mulS x f y 0 : Nat) : Int) = ((mulS x f y c : Nat) : Int) := by unfold mulS; simp
  rw [e]; exact IntWalk.u64_in _ (by omega)

theorem mulrow_step {l M N : List Nat} {j i c f : Nat} (hi : j + i < N.length) (hsame : nth N (j + i) = nth M (j + i)) (hv : pv N j i + 4294967296 ^ i * c = pv M j i + pv l 0 i * f) :
    pv (N.set (j + i) (mulS (nth l i) f (nth N (j + i)) c % 4294967296)) j (i + 1) + 4294967296 ^ (i + 1) * (mulS (nth l i) f (nth N (j + i)) c / 4294967296) = pv M j (i + 1) + pv l 0 (i + 1) * f := by
  have h := Nat.mod_add_div (mulS (nth l i) f (nth N (j + i)) c) 4294967296
  rw [pv_set _ _ _ _ hi, pv_succ, pv_succ, Nat.zero_add, Nat.pow_succ, ← hsame]
  generalize mulS (nth l i) f (nth N (j + i)) c / 4294967296 = q at *
  generalize mulS (nth l i) f (nth N (j + i)) c % 4294967296 = d at *
  unfold mulS at h
  generalize 4294967296 ^ i = p at *
  have : p * (d + 4294967296 * q) = p * (c + (nth l i * f + nth N (j + i))) := by rw [h]
  grind

theorem mulrow_end {l m M N : List Nat} {j c : Nat} (hN : j + l.length < N.length) (hlow : ∀ i, i < j → nth N i = nth M i) 
    (hv : pv N j l.length + 4294967296 ^ l.length * c = pv M j l.length + pv l 0 l.length * nth m j) (ho : pv M 0 (j + l.length) = val l * pv m 0 j) :
    pv (N.set (j + l.length) c) 0 (j + 1 + l.length) = val l * pv m 0 (j + 1) := by
  have e : j + 1 + l.length = j + (l.length + 1) := by omega
  rw [e, pv_add, Nat.zero_add, pv_set _ _ _ _ hN, hv, pv_eq_val rfl, pv_succ, Nat.zero_add]
  rw [pv_congr (l := N.set (j + l.length) c) (m := M) (k := j) (off := 0) (fun i hi => by rw [nth_set_ne _ _ _ _ (by omega), hlow _ (by omega)])]
  rw [pv_add, Nat.zero_add] at ho
  grind

set_option maxRecDepth 100000 in
set_option maxHeartbeats 1000000 in
theorem mulPlain_l {w : World} {u v : Value} {l m : List Nat} (hu : IsW w u l) (hv : IsW w v m) (hlen : l.length + m.length ≤ 1073741824) (hl0 : 0 < l.length) :
    Calls Try.prog 63 #[u, v] w fun e w' => (∃ r, e = .returned r ∧ IsW w' r (digs (val l * val m)) ∧ (∀ b, r.ownBlock = some b → w.heap.size ≤ b)) ∧ Below w.heap.size w w' := by
  have HU := Lib.hid hu
  have HV := Lib.hid hv
  obtain ⟨a, cap, rfl, h1, h2, h3, h4, h5⟩ := hu
  obtain ⟨b, bcap, rfl, k1, k2, k3, k4, k5⟩ := hv
  have H4 := Lib.hid h4
  have K4 := Lib.hid k4
  clear h3 h4 h5 k3 k4 k5
  go_enter Try.func63, Try.ntmps63
  go_wp2_with (at_make; refine wpList_make_words rfl _ _ _ _ rfl uw iu32 (l.length + m.length) rfl rfl hlen ?_; intro w1 hb1 hbel hs1; refine halt ?_)
  refine go_on ?_
  go_wp2_with fail
  go_loopw [21] (fun i wr => ∃ (j : Nat) (M : List Nat), j ≤ m.length ∧ i = .int .i64 j ∧ Blk wr w.heap.size 62 M ∧ Hid (Ws M) ∧ Hid (M.length = l.length + m.length) ∧ Below w.heap.size w wr ∧
      Hid (pv M 0 (j + l.length) = val l * pv m 0 j)) (fun i _ => m.length - (intOf i).toNat)
  case atStart => exact ⟨0, _, Nat.zero_le _, rfl, hb1, Lib.hid (ws_replicate _), Lib.hid (by simp), hbel, Lib.hid (by rw [pv_replicate, pv_zero]; simp)⟩
  case round =>
    obtain ⟨j, M, hj, rfl, hM, hMw, hMl, hon, hval⟩ := hrel
    obtain ⟨wo, rfl⟩ : ∃ wo : World, wo = wr := ⟨_, rfl⟩
    by_cases hjm : j < m.length
    · obtain ⟨bb, boff, rfl, hblt, -⟩ := K4.out (by intro e; simp at e; subst e; simp at hjm)
      have hcb0 := HV.out.cell j hjm
      have hcb : wo.cell? ⟨bb, boff + j, none⟩ = some (.int .u32 (nth m j)) := by rw [hon.cell (p := ⟨bb, boff + j, none⟩) hblt]; exact hcb0
      have hf := ws_nth HV.out.ws j
      clear hcb0
      go_wp2_with fail
      go_loopw [9, 41] (fun c i wr => ∃ (t cr : Nat) (N : List Nat), t ≤ l.length ∧ i = .int .i64 t ∧ c = .int .u64 cr ∧ cr < 4294967296 ∧ Blk wr w.heap.size 62 N ∧ Hid (Ws N) ∧ Hid (N.length = l.length + m.length) ∧ Below w.heap.size w wr ∧
        Hid (∀ x, (x < j ∨ j + t ≤ x) → nth N x = nth M x) ∧ Hid (pv N j t + 4294967296 ^ t * cr = pv M j t + pv l 0 t * nth m j)) (fun _ i _ => l.length - (intOf i).toNat)
      case atStart => exact ⟨0, 0, M, Nat.zero_le _, rfl, rfl, by omega, hM, hMw, hMl, hon, Lib.hid (fun _ _ => rfl), Lib.hid (by simp [pv_zero])⟩
      case round =>
        obtain ⟨t, cr, N, ht, rfl, rfl, hcr, hN, hNw, hNl, hon2, hsame, hval2⟩ := hrel
        by_cases htl : t < l.length
        · obtain ⟨ab, aoff, rfl, halt, -⟩ := H4.out (by intro e; simp at e; subst e; simp at htl)
          have hca0 := HU.out.cell t htl
          have hca : wr.cell? ⟨ab, aoff + t, none⟩ = some (.int .u32 (nth l t)) := by rw [hon2.cell (p := ⟨ab, aoff + t, none⟩) halt]; exact hca0
          have hx := ws_nth HU.out.ws t
          have hy := ws_nth hNw.out (j + t)
          have hcN := hN.cell (j + t) (by have := hNl.out; omega)
          have hfree := hN.free (j + t)
          have w1 := mulS_wrap1 hx hf
          have w2 := mulS_wrap2 hx hf hy
          have w3 := mulS_wrap3 hx hf hy hcr
          have w4 := mulS_lt hx hf hy hcr
          clear hca0 hcb
          go_wp2_with fail
          go_roundw
          case rel =>
            exact ⟨t + 1, mulS (nth l t) (nth m j) (nth N (j + t)) cr / 4294967296, N.set (j + t) (mulS (nth l t) (nth m j) (nth N (j + t)) cr % 4294967296), by omega, by go_num, by go_num, by omega,
              hN.setCell (j + t) _ _ (by unfold U; go_num), Lib.hid (ws_set hNw.out _ (by omega)), Lib.hid (by rw [List.length_set]; exact hNl.out), hon2.setCell (Nat.le_refl _) _,
              Lib.hid (fun x hx => by rw [nth_set_ne _ _ _ _ (by omega)]; exact hsame.out x (by omega)),
              Lib.hid (mulrow_step (by have := hNl.out; omega) (hsame.out _ (by omega)) hval2.out)⟩
          case measure => simp [intOf]; omega
        · obtain rfl : t = l.length := by omega
          have hfree := hN.free (j + l.length)
          have hcN := hN.cell (j + l.length) (by have := hNl.out; omega)
          clear hcb
          go_wp2_with fail
          go_roundw
          case rel =>
            exact ⟨j + 1, N.set (j + l.length) cr, by omega, by go_num, hN.setCell (j + l.length) _ _ (by unfold U; go_num), Lib.hid (ws_set hNw.out _ hcr), Lib.hid (by rw [List.length_set]; exact hNl.out), hon2.setCell (Nat.le_refl _) _,
              Lib.hid (mulrow_end (by have := hNl.out; omega) (fun x hx => hsame.out x (Or.inl hx)) hval2.out hval.out)⟩
          case measure => simp [intOf]; omega
    · obtain rfl : j = m.length := by omega
      have hMv : Hid (val M = val l * val m) := Lib.hid (by
        have h := hval.out
        rw [pv_eq_val (by have := hMl.out; omega), pv_eq_val rfl] at h
        exact h)
      have hI := hM.isW_all hMw.out (l.length + m.length) (by have := hMl.out; omega) (by have := hMl.out; omega)
      rw [hMl.out] at hI
      have HI := Lib.hid hI
      clear hI
      go_wp2_with fail
      refine (trim_d HI.out hMv.out).mono ?_
      rintro en w4 ⟨⟨r, rfl, hr, hown⟩, rfl⟩
      go_wp2_with fail
      go_ret
      refine ⟨⟨r, rfl, hr, fun x hx => ?_⟩, hon⟩
      have := hown x hx
      simp [Value.ownBlock] at this
      omega
end Go.Proofs.Ytimbojhmjadgkaa
