/- Several texts in one: Th, Ld, Tg, S1. -/
import Derived.Test.YtafenoohjcpjgaaGreatZ14
import Derived.Test.YtafenoohjcpjgaaGreatZ12
import Derived.Deep.DrawnRows
import Derived.Deep.AppendLies
import Derived.Laws.BytesString
/- The reference's words: division, the small cases; the whole. -/
namespace Go.Proofs.YtafenoohjcpjgaaGreat
open Go.RowKit

set_option maxRecDepth 100000 in
set_option maxHeartbeats 2000000 in
theorem rparts_less {w : World} {u v : Value} {x y : Nat} (hu : IsW w u (digs x)) (hv : IsW w v (digs y)) (hxy : x < y) :
    Calls Tryz.prog 139 #[u, v] w (PartsPost w x y) := by
  have hcmp : cmpN x y = -1 := by unfold cmpN; rw [if_pos hxy]
  have HB0 : Hid (∀ o, Below w.heap.size w (w.alloc o)) := Lib.hid (fun o => (Below.refl _ _).alloc (Nat.le_refl _) o)
  have hO := Lib.hid (fun w' (hb : Below w.heap.size w w') => rorder_d (w := w') (x := x) (y := y) (hu.below hb) (hv.below hb))
  rw [hcmp] at hO
  have HU := Lib.hid hu
  have HD : Hid (x / y = 0 ∧ x % y = x) := Lib.hid ⟨Nat.div_eq_of_lt hxy, Nat.mod_eq_of_lt hxy⟩
  obtain ⟨ua, un, uc, hue⟩ := hu.form
  subst hue
  obtain ⟨va, vn, vc, hve⟩ := hv.form
  subst hve
  clear hu hv hxy hcmp
  go_enter Tryz.func139, Tryz.ntmps139
  go_wp2_with fail
  refine (hO.out _ (HB0.out _)).mono ?_
  rintro en w0 ⟨rfl, n0, rfl⟩
  obtain ⟨w1, hw1⟩ : ∃ w1, w1 = (w.alloc (Obj.cells #[Value.slice none 0 0, Value.slice none 0 0] 147)).drewN n0 := ⟨_, rfl⟩
  rw [← hw1]
  have HB1 : Hid (Below w.heap.size w w1) := Lib.hid (by rw [hw1]; exact below_drewN (HB0.out _) n0)
  have HR1 : Hid (w1.heap[w.heap.size]? = some (.cells #[Value.slice none 0 0, Value.slice none 0 0] 147 (0, 0))) := Lib.hid (by rw [hw1]; exact heap_alloc_new w _)
  have r0 : w1.cell? ⟨w.heap.size, 0, none⟩ = some (Value.slice none 0 0) := by rw [cell_of_row _ _ _ _ _ _ HR1.out]; rfl
  have r1 : w1.cell? ⟨w.heap.size, 1, none⟩ = some (Value.slice none 0 0) := by rw [cell_of_row _ _ _ _ _ _ HR1.out]; rfl
  have f0 := frozen_of_row _ _ 0 _ _ HR1.out
  have f1 := frozen_of_row _ _ 1 _ _ HR1.out
  clear hw1
  go_wp2_with fail
  exact bodyPost_ret (results_cell_row rfl _ _ w.heap.size _ _ _ _ rfl (two3_heap HR1.out) Tryz.underlying147 rfl iparts) rfl ⟨⟨_, _, rfl, by rw [HD.out.1, digs_zero]; exact IsW.nil _, by rw [HD.out.2]; exact (HU.out.below HB1.out).other HR1.out two_zero (two3_only _ _ _ _)⟩, below_only HB1.out (two3_only _ _ _ _) (by omega)⟩

set_option maxRecDepth 100000 in
set_option maxHeartbeats 2000000 in
theorem rparts_word {w : World} {u v : Value} {x y : Nat} (hu : IsW w u (digs x)) (hv : IsW w v (digs y)) (h1 : (digs y).length = 1) (hyx : y ≤ x) :
    Calls Tryz.prog 139 #[u, v] w (PartsPost w x y) := by
  have hcmp : ¬ cmpN x y < 0 := by unfold cmpN; rw [if_neg (by omega)]; split <;> omega
  have hcd : decide (cmpN x y < 0) = false := by simp; omega
  have HCMP := Lib.hid hcmp
  have hy0 : 0 < y := by
    rcases Nat.eq_zero_or_pos y with h | h
    · rw [h, digs_zero] at h1; simp at h1
    · exact h
  have hyw : y < 4294967296 := by have := len_digs_le.1 (Nat.le_of_eq h1); omega
  have hn0 : nth (digs y) 0 = y := by
    have h := val_digs y
    match hd : digs y, h1 with
    | [d], _ => rw [hd] at h; simpa [val, nth] using h
  have HB0 : Hid (∀ o, Below w.heap.size w (w.alloc o)) := Lib.hid (fun o => (Below.refl _ _).alloc (Nat.le_refl _) o)
  have hO := Lib.hid (fun w' (hb : Below w.heap.size w w') => rorder_d (w := w') (x := x) (y := y) (hu.below hb) (hv.below hb))
  have hH := Lib.hid (fun w' (hb : Below w.heap.size w w') => rhalves_w (w := w') (x := x) (by_ := y) (hu.below hb) hy0 hyw)
  have hcell0 : Hid (∀ (b off cap : Nat), v = .slice (some ⟨b, off, none⟩) (digs y).length cap → w.cell? ⟨b, off + 0, none⟩ = some (.int .u32 (nth (digs y) 0))) := Lib.hid (fun b off cap he => (he ▸ hv).cell 0 (by omega))
  obtain ⟨ua, un, uc, hue⟩ := hu.form
  subst hue
  obtain ⟨b, bcap, rfl, k1, k2, k3, k4, k5⟩ := hv
  obtain ⟨bb, boff, rfl, hblt, -⟩ := k4 (by intro e; simp at e; rw [e] at h1; simp at h1)
  have hc0 := hcell0.out bb boff bcap rfl
  rw [hn0, Nat.add_zero] at hc0
  have HYW := Lib.hid hyw
  have HY0 := Lib.hid hy0
  rw [h1] at hO ⊢
  clear k1 k2 k3 k4 k5 hcmp hyx hu hy0 hyw hn0 hcell0 h1
  go_enter Tryz.func139, Tryz.ntmps139
  go_wp2_with fail
  refine (hO.out _ (HB0.out _)).mono ?_
  rintro en w0 ⟨rfl, n0, rfl⟩
  obtain ⟨w1, hw1⟩ : ∃ w1, w1 = (w.alloc (Obj.cells #[Value.slice none 0 0, Value.slice none 0 0] 147)).drewN n0 := ⟨_, rfl⟩
  rw [← hw1]
  have HB1 : Hid (Below w.heap.size w w1) := Lib.hid (by rw [hw1]; exact below_drewN (HB0.out _) n0)
  have HR1 : Hid (w1.heap[w.heap.size]? = some (.cells #[Value.slice none 0 0, Value.slice none 0 0] 147 (0, 0))) := Lib.hid (by rw [hw1]; exact heap_alloc_new w _)
  have hc1 : w1.cell? ⟨bb, boff, none⟩ = some (.int .u32 (y : Int)) := by rw [HB1.out.cell (p := ⟨bb, boff, none⟩) hblt]; exact hc0
  clear hw1 hc0
  go_wp2_with fail
  refine (hH.out _ HB1.out).mono ?_
  rintro en w2 ⟨⟨q, rfl, hq, -⟩, hb2⟩
  obtain ⟨qa, qn, qc, hqe⟩ := hq.form
  subst hqe
  have HQ2 := Lib.hid hq
  have HB2 := Lib.hid (below_trans HB1.out hb2)
  have HR2 := Lib.hid ((hb2.block _ (lt_of_block HR1.out)).trans HR1.out)
  obtain ⟨r, hr⟩ : ∃ r, r = x % y := ⟨_, rfl⟩
  have HRR := Lib.hid hr
  have HRW : Hid (r < 4294967296) := Lib.hid (by rw [hr]; have h9 := HYW.out; have := Nat.mod_lt x HY0.out; omega)
  rw [← hr]
  clear hr hq hb2
  go_wp2_with fail
  obtain ⟨w3, hw3⟩ : ∃ w3, w3 = w2.alloc (Obj.cells #[Value.int IntKind.u32 (r : Int)] 125) := ⟨_, rfl⟩
  have hB : Blk w3 w2.heap.size 125 [r] := by
    rw [hw3]
    show (w2.heap.push _)[w2.heap.size]? = _
    simp [U]
  have hb3 : Below w2.heap.size w2 w3 := by rw [hw3]; exact (Below.refl _ _).alloc (Nat.le_refl _) _
  rw [← hw3]
  have HI := Lib.hid (hB.isW_all (by intro z hz; simp at hz; have := HRW.out; omega) 1 (by simp) (by simp))
  have HQ3 := Lib.hid (HQ2.out.below hb3)
  have HB3 := Lib.hid (below_trans HB2.out hb3)
  have HR3 := Lib.hid ((hb3.block _ (lt_of_block HR2.out)).trans HR2.out)
  clear hw3 hB hb3
  refine (rtrim_d HI.out (x := r) (by simp [val])).mono ?_
  rintro en w4 ⟨⟨t, rfl, ht, -⟩, rfl⟩
  obtain ⟨ta, tn, tc, hte⟩ := ht.form
  subst hte
  have HT3 := Lib.hid ht
  have r0 : w3.cell? ⟨w.heap.size, 0, none⟩ = some (Value.slice none 0 0) := by rw [cell_of_row _ _ _ _ _ _ HR3.out]; rfl
  have r1 : w3.cell? ⟨w.heap.size, 1, none⟩ = some (Value.slice none 0 0) := by rw [cell_of_row _ _ _ _ _ _ HR3.out]; rfl
  have f0 := frozen_of_row _ _ 0 _ _ HR3.out
  have f1 := frozen_of_row _ _ 1 _ _ HR3.out
  clear ht
  go_wp2_with fail
  exact bodyPost_ret (results_cell_row rfl _ _ w.heap.size _ _ _ _ rfl (two3_heap HR3.out) Tryz.underlying147 rfl iparts) rfl ⟨⟨_, _, rfl, HQ3.out.other HR3.out two_zero (two3_only _ _ _ _), by rw [← HRR.out]; exact HT3.out.other HR3.out two_zero (two3_only _ _ _ _)⟩, below_only HB3.out (two3_only _ _ _ _) (by omega)⟩

/-- Division, of any numbers but by 0. -/
theorem rparts_w {w : World} {u v : Value} {x y : Nat} (hu : IsW w u (digs x)) (hv : IsW w v (digs y)) (hy : 0 < y) (hlb : (digs x).length < 1073741824) :
    Calls Tryz.prog 139 #[u, v] w (PartsPost w x y) := by
  by_cases hxy : x < y
  · exact rparts_less hu hv hxy
  · by_cases h1 : (digs y).length = 1
    · exact rparts_word hu hv h1 (by omega)
    · refine rparts_long rfl rfl hu hv ?_ (by omega) hlb
      have h2 : (digs y).length ≠ 0 := by rw [digs_pos (by omega)]; simp
      omega
end Go.Proofs.YtafenoohjcpjgaaGreat

/- FracOrder: the walk. -/
namespace Go.Proofs.YtafenoohjcpjgaaGreat
open Go.RowKit
attribute [local go_sem ↓] Go.wp_at_zero Go.wp_at_succ

/-- Cells that stand in every later world. -/
theorem cells_later {w : World} {g : Nat} {cs : Array Value} {t : TypeId} {fr : Nat × Nat} (h : w.heap[g]? = some (.cells cs t fr)) :
    ∀ (o : Nat) (v : Value), cs[o]? = some v → ∀ w', Below w.heap.size w w' → w'.cell? ⟨g, o, none⟩ = some v :=
  fun o v k w' hb => by rw [cell_of_row _ _ _ _ _ _ ((hb.block _ (lt_of_block h)).trans h)]; exact k

theorem digs_one : digs 1 = [1] := by unfold digs; simp [digs]
/-- The words of 1. -/
theorem one_form {w : World} {v : Value} (h : IsW w v [1]) : ∃ b off cap, v = .slice (some ⟨b, off, none⟩) 1 cap ∧ ∀ w', Below w.heap.size w w' → w'.cell? ⟨b, off, none⟩ = some (.int .u32 1) := by
  obtain ⟨a, cap, rfl, h1, h2, h3, h4, h5⟩ := id h
  obtain ⟨b, off, rfl, -, -⟩ := h4 (by simp)
  exact ⟨b, off, cap, rfl, fun w' hb => (h.below hb).cell 0 (by simp)⟩
theorem frac_one {b : Bool} {a i : Option Addr} {n c j k : Nat} : ∀ v ∈ (#[Value.bool b, Value.slice a n c, Value.slice i j k] : Array Value).toList, v.oneCell' = true := by
  intro v hv; simp at hv; rcases hv with rfl | rfl | rfl <;> rfl

end Go.Proofs.YtafenoohjcpjgaaGreat

/- Exact, of the reference: fractions that are written alike. -/
namespace Go.Proofs.YtafenoohjcpjgaaGreat
open Go.RowKit

theorem slice_at {w : World} {v : Value} {l : List Nat} (h : IsW w v l) : ∃ a c, v = .slice a l.length c ∧ (0 < l.length → ∃ b off, a = some ⟨b, off, none⟩ ∧ ∀ j, j < l.length → w.cell? ⟨b, off + j, none⟩ = some (.int .u32 (nth l j))) := by
  obtain ⟨a, c, rfl, h1, h2, h3, h4, h5⟩ := id h
  refine ⟨a, c, rfl, fun hp => ?_⟩
  obtain ⟨b, off, rfl, -, -⟩ := h4 (by intro e; simp at e; subst e; simp at hp)
  exact ⟨b, off, rfl, fun j hj => h.cell j hj⟩

end Go.Proofs.YtafenoohjcpjgaaGreat

/- Decimal digits: arithmetic alone. -/
namespace Go.Proofs.YtafenoohjcpjgaaGreat

end Go.Proofs.YtafenoohjcpjgaaGreat

/- A number's decimal digits: the walk. -/
namespace Go.Proofs.YtafenoohjcpjgaaGreat
open Go.RowKit

end Go.Proofs.YtafenoohjcpjgaaGreat

/- Fractions as texts: bytes put behind one another, bytes as a string. -/
namespace Go.Proofs.YtafenoohjcpjgaaGreat
open Go.RowKit

end Go.Proofs.YtafenoohjcpjgaaGreat

/- frac.Print: the walk. -/
namespace Go.Proofs.YtafenoohjcpjgaaGreat
open Go.RowKit

end Go.Proofs.YtafenoohjcpjgaaGreat

/- half, of the statements. -/
namespace Go.Proofs.YtafenoohjcpjgaaGreat
open Go.RowKit

end Go.Proofs.YtafenoohjcpjgaaGreat
