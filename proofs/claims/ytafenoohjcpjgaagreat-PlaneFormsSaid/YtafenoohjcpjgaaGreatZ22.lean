/- Several texts in one: Fr, K2, K3, K4, K5, Y1. -/
import Derived.Test.YtafenoohjcpjgaaGreatZ18
import Derived.Test.YtafenoohjcpjgaaGreatZ21
import Derived.Deep.RegionHeld3
import Derived.Deep.DrawnRows
/- Blocks of fractions, made and stored into; read as lists. -/
namespace Go.Proofs.YtafenoohjcpjgaaGreat
open Go.RowKit

/-- A block of n fractions, of which those up to j stand for numbers. -/
def FracsTo (w : World) (B n j : Nat) (g : Nat → Rat) : Prop :=
  ∃ f, Row3 w B 43 n f ∧ ∀ i, i < n → ∃ a1 n1 c1 b a2 n2 c2, f i = (.bool b, .slice a1 n1 c1, .slice a2 n2 c2) ∧ (i < j → FracV w (.agg #[.bool b, .slice a1 n1 c1, .slice a2 n2 c2]) (g i))
theorem FracsTo.below {w w' : World} {B n j : Nat} {g : Nat → Rat} (h : FracsTo w B n j g) (hb : Below w.heap.size w w') : FracsTo w' B n j g := by
  obtain ⟨f, hr, he⟩ := h
  refine ⟨f, hr.below hr.lt hb, fun i hi => ?_⟩
  obtain ⟨a1, n1, c1, b, a2, n2, c2, e, hq⟩ := he i hi
  exact ⟨a1, n1, c1, b, a2, n2, c2, e, fun hj => (hq hj).below hb⟩
theorem FracsTo.lt {w : World} {B n j : Nat} {g : Nat → Rat} (h : FracsTo w B n j g) : B < w.heap.size := by
  obtain ⟨f, hr, -⟩ := h
  exact hr.lt
/-- No cell of such a block is a word. -/
theorem fracs_cells {B n : Nat} {w : World} {f : Nat → Value × Value × Value} (hr : Row3 w B 43 n f) (hf : ∀ i, i < n → ∃ a1 n1 c1 b a2 n2 c2, f i = (.bool b, .slice a1 n1 c1, .slice a2 n2 c2)) :
    ∃ c, w.heap[B]? = some (.cells c 43 (0, 0)) ∧ ∀ (j k : Nat), c[j]? ≠ some (U k) := by
  obtain ⟨c, h1, h2, h3⟩ := hr
  refine ⟨c, h1, fun j k hk => ?_⟩
  have hj : j < c.size := (Array.getElem?_eq_some_iff.1 hk).1
  have hi : j / 3 < n := by omega
  obtain ⟨a1, n1, c1, b, a2, n2, c2, e⟩ := hf (j / 3) hi
  obtain ⟨k0, k1, k2⟩ := h3 (j / 3) hi
  rw [e] at k0 k1 k2
  rcases (by omega : j = j / 3 * 3 ∨ j = j / 3 * 3 + 1 ∨ j = j / 3 * 3 + 2) with h | h | h
  · rw [h, k0] at hk; simp [U] at hk
  · rw [h, k1] at hk; simp [U] at hk
  · rw [h, k2] at hk; simp [U] at hk
theorem FracsTo.store {w w' : World} {B n j : Nat} {g : Nat → Rat} {a1 a2 : Option Addr} {n1 c1 n2 c2 : Nat} {b : Bool} {f : Nat → Value × Value × Value}
    (hr : Row3 w B 43 n f) (he : ∀ i, i < n → ∃ a1 n1 c1 b a2 n2 c2, f i = (.bool b, .slice a1 n1 c1, .slice a2 n2 c2) ∧ (i < j → FracV w (.agg #[.bool b, .slice a1 n1 c1, .slice a2 n2 c2]) (g i)))
    (hq : FracV w (.agg #[.bool b, .slice a1 n1 c1, .slice a2 n2 c2]) (g j)) (hr' : Row3 w' B 43 n (fun i => if i = j then (.bool b, .slice a1 n1 c1, .slice a2 n2 c2) else f i)) (ho : Only B w w') : FracsTo w' B n (j + 1) g := by
  obtain ⟨c, hc, hU⟩ := fracs_cells hr (fun i hi => by obtain ⟨a1, n1, c1, b, a2, n2, c2, e, -⟩ := he i hi; exact ⟨a1, n1, c1, b, a2, n2, c2, e⟩)
  have keep : ∀ {v : Value} {q : Rat}, FracV w v q → FracV w' v q := by
    intro v q h
    obtain ⟨u, d, rfl, h1, h2⟩ := h
    exact ⟨u, d, rfl, h1.other hc hU ho, h2.other hc hU ho⟩
  refine ⟨_, hr', fun i hi => ?_⟩
  by_cases hij : i = j
  · subst hij
    exact ⟨a1, n1, c1, b, a2, n2, c2, by simp, fun _ => keep hq⟩
  · obtain ⟨a1', n1', c1', b', a2', n2', c2', e, h⟩ := he i hi
    exact ⟨a1', n1', c1', b', a2', n2', c2', by simp only [if_neg hij]; exact e, fun h9 => keep (h (by omega))⟩
theorem info_frac9 : (Tryz.prog.info? 43).map (fun i => (i.zero, i.size, i.bytes)) = some (some (.agg #[Value.bool false, Value.slice none 0 0, Value.slice none 0 0]), 3, 56) := by kernel_rfl

theorem FracsTo.list {N : Nat} {w : World} {B n : Nat} {qs : List Rat} (h : FracsTo w B n n (nthQ qs)) (hn : n = qs.length) (hs : ∀ i, i < n → (digs (nthQ qs i).num.natAbs).length ≤ N ∧ (digs (nthQ qs i).den).length ≤ N ∧ lenQ (nthQ qs i) ≤ 4096) : ListF N w (.slice (some ⟨B, 0, none⟩) n n) qs := by
  obtain ⟨f, hr, he⟩ := h
  refine ⟨_, n, by rw [hn], fun i q hi => ?_⟩
  have hin : i < n := by rw [hn]; exact (List.getElem?_eq_some_iff.1 hi).1
  obtain ⟨a1, n1, c1, b, a2, n2, c2, e, hq⟩ := he i hin
  obtain ⟨k0, k1, k2⟩ := hr.cell hin
  rw [e] at k0 k1 k2
  have e2 : nthQ qs i = q := nthQ_of hi
  obtain ⟨s1, s2, s3⟩ := hs i hin
  have hv := hq hin
  rw [e2] at hv s1 s2 s3
  obtain ⟨u, d, he9, hu, hd⟩ := hv
  refine ⟨B, 0, b, a1, n1, c1, a2, n2, c2, rfl, by rw [Nat.zero_add]; exact k0, by rw [Nat.zero_add]; exact k1, by rw [Nat.zero_add]; exact k2, ?_⟩
  exact ⟨_, _, _, ⟨u, d, he9, hu, hd⟩, (fix_digs s3).symm, s1, s2⟩
end Go.Proofs.YtafenoohjcpjgaaGreat

/- Readers of right sides and of columns; lists of zeros; more words than there are. -/
namespace Go.Proofs.YtafenoohjcpjgaaGreat
open Go.RowKit
attribute [local go_sem ↓] Go.wp_at_zero Go.wp_at_succ

theorem FewF.up {N M : Nat} {w : World} {v : Value} {q : Rat} (h : FewF N w v q) (hNM : N ≤ M) : FewF M w v q := by
  obtain ⟨b, l, m, h1, h2, h3, h4⟩ := h
  exact ⟨b, l, m, h1, h2, by omega, by omega⟩
theorem ListF.up {N M : Nat} {w : World} {v : Value} {qs : List Rat} (h : ListF N w v qs) (hNM : N ≤ M) : ListF M w v qs := by
  obtain ⟨a, c, rfl, h⟩ := h
  refine ⟨a, c, rfl, fun i q hq => ?_⟩
  obtain ⟨B, off, b, a1, n1, c1, a2, n2, c2, ha, h0, h1, h2, hf⟩ := h i q hq
  exact ⟨B, off, b, a1, n1, c1, a2, n2, c2, ha, h0, h1, h2, hf.up hNM⟩
theorem RowF.up {N M : Nat} {w : World} {B o : Nat} {r : List Rat × Int × Rat} (h : RowF N w B o r) (hNM : N ≤ M) : RowF M w B o r := by
  obtain ⟨a1, c1, b, a2, n2, c2, a3, n3, c3, h0, h1, h2, h3, h4, hl, hf, hz⟩ := h
  exact ⟨a1, c1, b, a2, n2, c2, a3, n3, c3, h0, h1, h2, h3, h4, hl.up hNM, hf.up hNM, hz⟩
theorem ProgF.up {N M : Nat} {w : World} {v : Value} {P : Pm} (h : ProgF N w v P) (hNM : N ≤ M) : ProgF M w v P := by
  obtain ⟨fa, fc, ga, gc, ra, rc, hv, h1, h2, hf, hg, hr⟩ := h
  refine ⟨fa, fc, ga, gc, ra, rc, hv, h1, h2, hf, hg.up hNM, fun i r hi => ?_⟩
  obtain ⟨B, off, ha, hr⟩ := hr i r hi
  exact ⟨B, off, ha, hr.up hNM⟩

/-- The right side of a row; a row's number in a column. -/
def bQ (P : Pm) (i : Nat) : Rat := ((P.rows[i]?).map (·.2.2)).getD 0
def aQ (P : Pm) (v i : Nat) : Rat := ((P.rows[i]?).map (fun r => nthQ r.1 v)).getD 0
theorem bQ_of {P : Pm} {i : Nat} {r : List Rat × Int × Rat} (h : P.rows[i]? = some r) : bQ P i = r.2.2 := by unfold bQ; rw [h]; rfl
theorem aQ_of {P : Pm} {v i : Nat} {r : List Rat × Int × Rat} (h : P.rows[i]? = some r) : aQ P v i = nthQ r.1 v := by unfold aQ; rw [h]; rfl

set_option maxRecDepth 8000 in
theorem sides_w {w : World} {z : Int} {fa ga ra : Option Addr} {fn fc gn gc rn rc : Nat} :
    Calls Tryz.prog 27 #[.agg #[.int .i64 z, .slice fa fn fc, .slice ga gn gc, .slice ra rn rc]] w fun e w' => (∃ g, e = .returned (.func (.func 60) #[] #[.pointer (some ⟨g, 0, none⟩)]) ∧ w'.cell? ⟨g, 3, none⟩ = some (.slice ra rn rc)) ∧ Below w.heap.size w w' := by
  have hmf : ∀ (fn : Fn) (first cap : Array Value) (w : World), (Instr.makeFunc fn first cap).run Tryz.prog w = .ok (.func fn first cap) w := fun _ _ _ _ => rfl
  go_enter Tryz.func27, Tryz.ntmps27
  go_wp2_with fail
  go_ret
  exact ⟨⟨_, rfl, by rw [cell_of_row _ _ _ _ _ _ (heap_alloc_new w _)]; rfl⟩, (Below.refl _ _).alloc (Nat.le_refl _) _⟩
set_option maxRecDepth 8000 in
theorem column_w {w : World} {v : Int} {ra : Option Addr} {rn rc : Nat} :
    Calls Tryz.prog 28 #[.slice ra rn rc, .int .i64 v] w fun e w' => (∃ g g2, e = .returned (.func (.func 61) #[] #[.pointer (some ⟨g, 0, none⟩), .pointer (some ⟨g2, 0, none⟩)]) ∧ w'.cell? ⟨g, 0, none⟩ = some (.slice ra rn rc) ∧ w'.cell? ⟨g2, 0, none⟩ = some (.int .i64 v)) ∧ Below w.heap.size w w' := by
  have hmf : ∀ (fn : Fn) (first cap : Array Value) (w : World), (Instr.makeFunc fn first cap).run Tryz.prog w = .ok (.func fn first cap) w := fun _ _ _ _ => rfl
  go_enter Tryz.func28, Tryz.ntmps28
  go_wp2_with fail
  go_ret
  exact ⟨⟨_, _, rfl, by rw [cell_of_row _ _ _ _ _ _ (heap_alloc2_old w _ _)]; rfl, by rw [cell_of_row _ _ _ _ _ _ (heap_alloc2_new w _ _)]; rfl⟩, ((Below.refl _ _).alloc (Nat.le_refl _) _).alloc (by simp) _⟩

set_option maxRecDepth 8000 in
set_option maxHeartbeats 2000000 in
theorem sides1_w {N : Nat} {w0 w : World} {p : Nat} {ra : Option Addr} {rn rc i : Nat} {P : Pm} (hb : Below w0.heap.size w0 w) (hp : w.cell? ⟨p, 3, none⟩ = some (.slice ra rn rc)) (hR : RowsPF N w0 ra P.rows) (hi : i < rn) (hrn : rn = P.rows.length) :
    Calls Tryz.prog 60 #[.int .i64 (i : Nat), .pointer (some ⟨p, 0, none⟩)] w (ReadPost N w0 w (bQ P i)) := by
  obtain ⟨r, B, off, a1, c1, b, a2, n2, c2, a3, n3, c3, hr, ha, hlr, hfr, hz3, hz4, hc⟩ := hR.at (i := i) (by omega)
  subst ha
  rw [bQ_of hr]
  have HF := Lib.hid hfr
  obtain ⟨x0, x1, x2, x3, x4⟩ := hc w hb
  have hlt1 := cell_lt hp
  have hlt2 := cell_lt x0
  clear hR hc hlr hfr hr hb hz3 hz4 hrn
  go_enter Tryz.func60, Tryz.ntmps60
  go_wp2_with fail
  exact bodyPost_ret (results_cell_row rfl _ _ w.heap.size _ _ _ _ rfl (heap_alloc_new w _) Tryz.underlying43 rfl ifrac) rfl ⟨⟨_, _, _, _, _, _, _, rfl, HF.out⟩, (Below.refl _ _).alloc (Nat.le_refl _) _⟩

set_option maxRecDepth 8000 in
set_option maxHeartbeats 4000000 in
theorem column1_w {N : Nat} {w0 w : World} {p p2 v : Nat} {ra : Option Addr} {rn rc i : Nat} {P : Pm} (hb : Below w0.heap.size w0 w) (hp : w.cell? ⟨p, 0, none⟩ = some (.slice ra rn rc)) (hp2 : w.cell? ⟨p2, 0, none⟩ = some (.int .i64 (v : Nat))) (hR : RowsPF N w0 ra P.rows) (hi : i < rn) (hrn : rn = P.rows.length) (hv : ∀ r, P.rows[i]? = some r → v < r.1.length) :
    Calls Tryz.prog 61 #[.int .i64 (i : Nat), .pointer (some ⟨p, 0, none⟩), .pointer (some ⟨p2, 0, none⟩)] w (ReadPost N w0 w (aQ P v i)) := by
  obtain ⟨r, B, off, a1, c1, b, a2, n2, c2, a3, n3, c3, hr, ha, hlr, hfr, hz3, hz4, hc⟩ := hR.at (i := i) (by omega)
  subst ha
  rw [aQ_of hr]
  have hvr := hv r hr
  obtain ⟨x0, x1, x2, x3, x4⟩ := hc w hb
  obtain ⟨rl, hrl⟩ : ∃ n, n = r.1.length := ⟨_, rfl⟩
  rw [← hrl] at x0 hlr hvr
  obtain ⟨q, B', off', b', a4, n4, c4, a5, n5, c5, hq, ha', hc', hf⟩ := hlr.at hvr
  subst ha'
  rw [nthQ_of hq]
  have HF := Lib.hid hf
  obtain ⟨y0, y1, y2⟩ := hc' w hb
  have hlt1 := cell_lt hp
  have hlt2 := cell_lt x0
  have hlt3 := cell_lt hp2
  have hlt4 := cell_lt y0
  obtain ⟨w1, hw1⟩ : ∃ w1, w1 = w.alloc (Obj.cells #[Value.bool false, Value.slice none 0 0, Value.slice none 0 0] 43) := ⟨_, rfl⟩
  have HB1 : Hid (Below w.heap.size w w1) := Lib.hid (by rw [hw1]; exact (Below.refl _ _).alloc (Nat.le_refl _) _)
  have HR1 : Hid (w1.heap[w.heap.size]? = some (.cells #[Value.bool false, Value.slice none 0 0, Value.slice none 0 0] 43 (0, 0))) := Lib.hid (by rw [hw1]; exact heap_alloc_new w _)
  have HW1 := Lib.hid hw1.symm
  have z0 := cell_below HB1.out hp
  have z1 := cell_below HB1.out hp2
  have z2 := cell_below HB1.out x0
  have k0 := cell_below HB1.out y0
  have k1 := cell_below HB1.out y1
  have k2 := cell_below HB1.out y2
  have g0 := frozen_of_row _ _ 0 _ _ HR1.out
  have g1 := frozen_of_row _ _ 1 _ _ HR1.out
  have g2 := frozen_of_row _ _ 2 _ _ HR1.out
  have r0 := cells_later HR1.out 0 _ rfl _ (Below.refl _ _)
  have r1 := cells_later HR1.out 1 _ rfl _ (Below.refl _ _)
  have r2 := cells_later HR1.out 2 _ rfl _ (Below.refl _ _)
  clear hR hc hlr hfr hr hb hz3 hz4 hrn hv hf hq hc' hw1 x0 x1 x2 x3 x4 y0 y1 y2 hp hp2 hrl
  go_enter Tryz.func61, Tryz.ntmps61
  go_wp2_with fail
  rw [HW1.out]
  go_region
  all_goals
    go_wp2_with fail
    exact bodyPost_ret (results_cell_row rfl _ _ w.heap.size _ _ _ _ rfl (frac3_heap HR1.out) Tryz.underlying43 rfl ifrac) rfl ⟨⟨_, _, _, _, _, _, _, rfl, HF.out⟩, below_drewN (below_only HB1.out (frac3_only _ _ _ _ _) (Nat.le_refl _)) 1⟩
end Go.Proofs.YtafenoohjcpjgaaGreat

/- bounds of plane: signs of prices, and columns under them. -/
namespace Go.Proofs.YtafenoohjcpjgaaGreat
open Go.RowKit
attribute [local go_sem ↓] Go.wp_at_zero Go.wp_at_succ

end Go.Proofs.YtafenoohjcpjgaaGreat

/- signs, covers and worth of the reference. -/
namespace Go.Proofs.YtafenoohjcpjgaaGreat
open Go.RowKit
attribute [local go_sem ↓] Go.wp_at_zero Go.wp_at_succ

theorem row_sense {P : Pm} (h : rightB2 P = true) {i : Nat} {r : List Rat × Int × Rat} (hr : P.rows[i]? = some r) : -1 ≤ r.2.1 ∧ r.2.1 ≤ 1 := by
  unfold rightB2 at h
  simp only [Bool.and_eq_true] at h
  have h9 := (List.all_eq_true.1 h.2) r (List.mem_of_getElem? hr)
  simp only [okRow, decide_eq_true_eq] at h9
  exact h9.2
end Go.Proofs.YtafenoohjcpjgaaGreat

/- worth of the reference; lists of zeros; small certificates. -/
namespace Go.Proofs.YtafenoohjcpjgaaGreat
open Go.RowKit
attribute [local go_sem ↓] Go.wp_at_zero Go.wp_at_succ

set_option maxRecDepth 8000 in
theorem zeros1_w {w : World} {i : Int} : Calls Tryz.prog 117 #[.int .i64 i] w fun e w' => e = .returned (.agg #[.bool false, .slice none 0 0, .slice none 0 0]) ∧ Below w.heap.size w w' := by
  go_enter Tryz.func117, Tryz.ntmps117
  go_wp2_with fail
  exact bodyPost_ret (results_cell_row rfl _ _ w.heap.size _ _ _ _ rfl (heap_alloc_new w _) Tryz.underlying43 rfl ifrac) rfl ⟨rfl, (Below.refl _ _).alloc (Nat.le_refl _) _⟩
theorem nofix9 : fixR false [] [] = 0 := by unfold fixR; rw [rightB_nil rfl]; rfl
theorem nth_rep {n i : Nat} : nthQ (List.replicate n (0 : Rat)) i = 0 := by
  unfold nthQ
  rw [List.getElem?_replicate]
  split <;> rfl

end Go.Proofs.YtafenoohjcpjgaaGreat

/- Readers: numbers times -1; lists read into memory of their own. -/
namespace Go.Proofs.YtafenoohjcpjgaaGreat
open Go.RowKit
attribute [local go_sem ↓] Go.wp_at_zero Go.wp_at_succ

/-- A list of right fractions. -/
def ListV (w : World) (v : Value) (qs : List Rat) : Prop :=
  ∃ B, v = .slice (some ⟨B, 0, none⟩) qs.length qs.length ∧ FracsTo w B qs.length qs.length (nthQ qs)
theorem ListV.below {w w' : World} {v : Value} {qs : List Rat} (h : ListV w v qs) (hb : Below w.heap.size w w') : ListV w' v qs := by
  obtain ⟨B, hv, h⟩ := h
  exact ⟨B, hv, h.below hb⟩
/-- What a reader tells, as one that is read. -/
def ReadI (w : World) (q : Rat) (e : Ending) (w' : World) : Prop :=
  (∃ b a1 n1 c1 a2 n2 c2, e = .returned (.agg #[.bool b, .slice a1 n1 c1, .slice a2 n2 c2]) ∧ InF w' (.agg #[.bool b, .slice a1 n1 c1, .slice a2 n2 c2]) q) ∧ Below w.heap.size w w'
theorem ReadI.of_read {N : Nat} {w0 w w' : World} {q : Rat} {e : Ending} (hb : Below w0.heap.size w0 w) (h : ReadPost N w0 w q e w') : ReadI w q e w' := by
  obtain ⟨⟨b, a1, n1, c1, a2, n2, c2, he, hf⟩, hbel⟩ := h
  exact ⟨⟨b, a1, n1, c1, a2, n2, c2, he, (hf.below (below_trans hb hbel)).inF⟩, hbel⟩
theorem ReadI.of_tell {w w' : World} {q : Rat} {e : Ending} (hl : lenQ q ≤ 4096) (h : RTell w q e w') : ReadI w q e w' := by
  obtain ⟨⟨r, he, hf⟩, hbel⟩ := h
  obtain ⟨a, n, c, i, j, k, rfl⟩ := frac_form hf
  exact ⟨⟨_, a, n, c, i, j, k, he, hf.inF hl⟩, hbel⟩
set_option maxRecDepth 8000 in
theorem turned_w {w : World} {f : Fn} {cs : Array Value} :
    Calls Tryz.prog 20 #[.func f #[] cs] w fun e w' => (∃ g, e = .returned (.func (.func 53) #[] #[.pointer (some ⟨g, 0, none⟩)]) ∧ w'.cell? ⟨g, 0, none⟩ = some (.func f #[] cs)) ∧ Below w.heap.size w w' := by
  have hmf : ∀ (fn : Fn) (first cap : Array Value) (w : World), (Instr.makeFunc fn first cap).run Tryz.prog w = .ok (.func fn first cap) w := fun _ _ _ _ => rfl
  go_enter Tryz.func20, Tryz.ntmps20
  go_wp2_with fail
  go_ret
  exact ⟨⟨_, rfl, by rw [cell_of_row _ _ _ _ _ _ (heap_alloc_new w _)]; rfl⟩, (Below.refl _ _).alloc (Nat.le_refl _) _⟩
set_option maxRecDepth 8000 in
set_option maxHeartbeats 2000000 in
theorem turned1_e {w : World} {t i : Nat} {p : Nat} {q : Rat} (ht : w.cell? ⟨t, 0, none⟩ = some (.func (.func 54) #[] #[.pointer (some ⟨p, 0, none⟩)])) (HG : ∀ w', Below w.heap.size w w' → Calls Tryz.prog 54 #[.int .i64 (i : Nat), .pointer (some ⟨p, 0, none⟩)] w' (ReadI w' q)) :
    Calls Tryz.prog 53 #[.int .i64 (i : Nat), .pointer (some ⟨t, 0, none⟩)] w (RTell w (-q)) := by
  obtain ⟨w1, hw1⟩ : ∃ w1, w1 = w.alloc (Obj.cells #[Value.bool false, Value.slice none 0 0, Value.slice none 0 0] 43) := ⟨_, rfl⟩
  have HB1 : Hid (Below w.heap.size w w1) := Lib.hid (by rw [hw1]; exact (Below.refl _ _).alloc (Nat.le_refl _) _)
  have HR1 : Hid (w1.heap[w.heap.size]? = some (.cells #[Value.bool false, Value.slice none 0 0, Value.slice none 0 0] 43 (0, 0))) := Lib.hid (by rw [hw1]; exact heap_alloc_new w _)
  have HW1 := Lib.hid hw1.symm
  have hlt1 := cell_lt ht
  have KG := Lib.hid HG
  obtain ⟨p, hp⟩ : ∃ p, p = -q := ⟨_, rfl⟩
  have HPQ := Lib.hid hp.symm
  rw [← hp]
  clear hw1 HG hp
  go_enter Tryz.func53, Tryz.ntmps53
  go_wp2_with fail
  rw [HW1.out]
  refine (KG.out _ HB1.out).mono ?_
  rintro en2 w2 ⟨⟨b, a1, n1, c1, a2, n2, c2, rfl, f2⟩, hb2⟩
  have K := Lib.hid (neg_f f2)
  rw [HPQ.out] at K
  have HZ2 := Lib.hid hb2
  clear f2 hb2 ht hlt1
  go_wp2_with fail
  refine K.out.mono ?_
  rintro en3 w3 ⟨⟨v3, rfl, f3, -⟩, hb3⟩
  obtain ⟨a3, n3, c3, i3, j3, k3, hq3⟩ := frac_form f3
  subst hq3
  have HF3 := Lib.hid f3
  have HZ3 := Lib.hid (below_trans HZ2.out hb3)
  have HR9 : Hid (w3.heap[w.heap.size]? = some (.cells #[Value.bool false, Value.slice none 0 0, Value.slice none 0 0] 43 (0, 0))) := Lib.hid ((HZ3.out.block _ (lt_of_block HR1.out)).trans HR1.out)
  have HB9 := Lib.hid (below_trans HB1.out HZ3.out)
  obtain ⟨bq, hbq⟩ : ∃ bq, bq = decide (p.num < 0) := ⟨_, rfl⟩
  rw [← hbq] at HF3
  rw [← hbq]
  have HF9 := Lib.hid (HF3.out.other HR9.out (frac3_only _ _ bq (Value.slice a3 n3 c3) (Value.slice i3 j3 k3)))
  have r0 := cells_later HR9.out 0 _ rfl _ (Below.refl _ _)
  have r1 := cells_later HR9.out 1 _ rfl _ (Below.refl _ _)
  have r2 := cells_later HR9.out 2 _ rfl _ (Below.refl _ _)
  have z0 := frozen_of_row _ _ 0 _ _ HR9.out
  have z1 := frozen_of_row _ _ 1 _ _ HR9.out
  have z2 := frozen_of_row _ _ 2 _ _ HR9.out
  clear f3 hb3 hbq
  go_wp2_with fail
  exact bodyPost_ret (results_cell_row rfl _ _ w.heap.size _ _ _ _ rfl (frac3_heap HR9.out) Tryz.underlying43 rfl ifrac) rfl ⟨⟨_, rfl, HF9.out⟩, below_only HB9.out (frac3_only _ _ _ _ _) (Nat.le_refl _)⟩
set_option maxRecDepth 8000 in
set_option maxHeartbeats 2000000 in
theorem turned1_s {w : World} {t i : Nat} {p : Nat} {q : Rat} (ht : w.cell? ⟨t, 0, none⟩ = some (.func (.func 60) #[] #[.pointer (some ⟨p, 0, none⟩)])) (HG : ∀ w', Below w.heap.size w w' → Calls Tryz.prog 60 #[.int .i64 (i : Nat), .pointer (some ⟨p, 0, none⟩)] w' (ReadI w' q)) :
    Calls Tryz.prog 53 #[.int .i64 (i : Nat), .pointer (some ⟨t, 0, none⟩)] w (RTell w (-q)) := by
  obtain ⟨w1, hw1⟩ : ∃ w1, w1 = w.alloc (Obj.cells #[Value.bool false, Value.slice none 0 0, Value.slice none 0 0] 43) := ⟨_, rfl⟩
  have HB1 : Hid (Below w.heap.size w w1) := Lib.hid (by rw [hw1]; exact (Below.refl _ _).alloc (Nat.le_refl _) _)
  have HR1 : Hid (w1.heap[w.heap.size]? = some (.cells #[Value.bool false, Value.slice none 0 0, Value.slice none 0 0] 43 (0, 0))) := Lib.hid (by rw [hw1]; exact heap_alloc_new w _)
  have HW1 := Lib.hid hw1.symm
  have hlt1 := cell_lt ht
  have KG := Lib.hid HG
  obtain ⟨p, hp⟩ : ∃ p, p = -q := ⟨_, rfl⟩
  have HPQ := Lib.hid hp.symm
  rw [← hp]
  clear hw1 HG hp
  go_enter Tryz.func53, Tryz.ntmps53
  go_wp2_with fail
  rw [HW1.out]
  refine (KG.out _ HB1.out).mono ?_
  rintro en2 w2 ⟨⟨b, a1, n1, c1, a2, n2, c2, rfl, f2⟩, hb2⟩
  have K := Lib.hid (neg_f f2)
  rw [HPQ.out] at K
  have HZ2 := Lib.hid hb2
  clear f2 hb2 ht hlt1
  go_wp2_with fail
  refine K.out.mono ?_
  rintro en3 w3 ⟨⟨v3, rfl, f3, -⟩, hb3⟩
  obtain ⟨a3, n3, c3, i3, j3, k3, hq3⟩ := frac_form f3
  subst hq3
  have HF3 := Lib.hid f3
  have HZ3 := Lib.hid (below_trans HZ2.out hb3)
  have HR9 : Hid (w3.heap[w.heap.size]? = some (.cells #[Value.bool false, Value.slice none 0 0, Value.slice none 0 0] 43 (0, 0))) := Lib.hid ((HZ3.out.block _ (lt_of_block HR1.out)).trans HR1.out)
  have HB9 := Lib.hid (below_trans HB1.out HZ3.out)
  obtain ⟨bq, hbq⟩ : ∃ bq, bq = decide (p.num < 0) := ⟨_, rfl⟩
  rw [← hbq] at HF3
  rw [← hbq]
  have HF9 := Lib.hid (HF3.out.other HR9.out (frac3_only _ _ bq (Value.slice a3 n3 c3) (Value.slice i3 j3 k3)))
  have r0 := cells_later HR9.out 0 _ rfl _ (Below.refl _ _)
  have r1 := cells_later HR9.out 1 _ rfl _ (Below.refl _ _)
  have r2 := cells_later HR9.out 2 _ rfl _ (Below.refl _ _)
  have z0 := frozen_of_row _ _ 0 _ _ HR9.out
  have z1 := frozen_of_row _ _ 1 _ _ HR9.out
  have z2 := frozen_of_row _ _ 2 _ _ HR9.out
  clear f3 hb3 hbq
  go_wp2_with fail
  exact bodyPost_ret (results_cell_row rfl _ _ w.heap.size _ _ _ _ rfl (frac3_heap HR9.out) Tryz.underlying43 rfl ifrac) rfl ⟨⟨_, rfl, HF9.out⟩, below_only HB9.out (frac3_only _ _ _ _ _) (Nat.le_refl _)⟩
set_option maxRecDepth 8000 in
set_option maxHeartbeats 2000000 in
theorem turned1_c {w : World} {t i : Nat} {p p2 : Nat} {q : Rat} (ht : w.cell? ⟨t, 0, none⟩ = some (.func (.func 61) #[] #[.pointer (some ⟨p, 0, none⟩), .pointer (some ⟨p2, 0, none⟩)])) (HG : ∀ w', Below w.heap.size w w' → Calls Tryz.prog 61 #[.int .i64 (i : Nat), .pointer (some ⟨p, 0, none⟩), .pointer (some ⟨p2, 0, none⟩)] w' (ReadI w' q)) :
    Calls Tryz.prog 53 #[.int .i64 (i : Nat), .pointer (some ⟨t, 0, none⟩)] w (RTell w (-q)) := by
  obtain ⟨w1, hw1⟩ : ∃ w1, w1 = w.alloc (Obj.cells #[Value.bool false, Value.slice none 0 0, Value.slice none 0 0] 43) := ⟨_, rfl⟩
  have HB1 : Hid (Below w.heap.size w w1) := Lib.hid (by rw [hw1]; exact (Below.refl _ _).alloc (Nat.le_refl _) _)
  have HR1 : Hid (w1.heap[w.heap.size]? = some (.cells #[Value.bool false, Value.slice none 0 0, Value.slice none 0 0] 43 (0, 0))) := Lib.hid (by rw [hw1]; exact heap_alloc_new w _)
  have HW1 := Lib.hid hw1.symm
  have hlt1 := cell_lt ht
  have KG := Lib.hid HG
  obtain ⟨p, hp⟩ : ∃ p, p = -q := ⟨_, rfl⟩
  have HPQ := Lib.hid hp.symm
  rw [← hp]
  clear hw1 HG hp
  go_enter Tryz.func53, Tryz.ntmps53
  go_wp2_with fail
  rw [HW1.out]
  refine (KG.out _ HB1.out).mono ?_
  rintro en2 w2 ⟨⟨b, a1, n1, c1, a2, n2, c2, rfl, f2⟩, hb2⟩
  have K := Lib.hid (neg_f f2)
  rw [HPQ.out] at K
  have HZ2 := Lib.hid hb2
  clear f2 hb2 ht hlt1
  go_wp2_with fail
  refine K.out.mono ?_
  rintro en3 w3 ⟨⟨v3, rfl, f3, -⟩, hb3⟩
  obtain ⟨a3, n3, c3, i3, j3, k3, hq3⟩ := frac_form f3
  subst hq3
  have HF3 := Lib.hid f3
  have HZ3 := Lib.hid (below_trans HZ2.out hb3)
  have HR9 : Hid (w3.heap[w.heap.size]? = some (.cells #[Value.bool false, Value.slice none 0 0, Value.slice none 0 0] 43 (0, 0))) := Lib.hid ((HZ3.out.block _ (lt_of_block HR1.out)).trans HR1.out)
  have HB9 := Lib.hid (below_trans HB1.out HZ3.out)
  obtain ⟨bq, hbq⟩ : ∃ bq, bq = decide (p.num < 0) := ⟨_, rfl⟩
  rw [← hbq] at HF3
  rw [← hbq]
  have HF9 := Lib.hid (HF3.out.other HR9.out (frac3_only _ _ bq (Value.slice a3 n3 c3) (Value.slice i3 j3 k3)))
  have r0 := cells_later HR9.out 0 _ rfl _ (Below.refl _ _)
  have r1 := cells_later HR9.out 1 _ rfl _ (Below.refl _ _)
  have r2 := cells_later HR9.out 2 _ rfl _ (Below.refl _ _)
  have z0 := frozen_of_row _ _ 0 _ _ HR9.out
  have z1 := frozen_of_row _ _ 1 _ _ HR9.out
  have z2 := frozen_of_row _ _ 2 _ _ HR9.out
  clear f3 hb3 hbq
  go_wp2_with fail
  exact bodyPost_ret (results_cell_row rfl _ _ w.heap.size _ _ _ _ rfl (frac3_heap HR9.out) Tryz.underlying43 rfl ifrac) rfl ⟨⟨_, rfl, HF9.out⟩, below_only HB9.out (frac3_only _ _ _ _ _) (Nat.le_refl _)⟩
set_option maxRecDepth 8000 in
set_option maxHeartbeats 4000000 in
theorem read_e {w : World} {n p : Nat} {qs : List Rat} (HG : ∀ i w', i < n → Below w.heap.size w w' → Calls Tryz.prog 54 #[.int .i64 (i : Nat), .pointer (some ⟨p, 0, none⟩)] w' (ReadI w' (nthQ qs i))) (hn : n = qs.length) (hn1 : n ≤ 1000) :
    Calls Tryz.prog 19 #[.int .i64 (n : Nat), .func (.func 54) #[] #[.pointer (some ⟨p, 0, none⟩)]] w fun e w' => (∃ r, e = .returned r ∧ ListV w' r qs ∧ ∀ g, r.ownBlock = some g → w.heap.size ≤ g) ∧ Below w.heap.size w w' := by
  have KZ := Lib.hid HG
  obtain ⟨g, hg⟩ : ∃ g : Nat → Rat, g = nthQ qs := ⟨_, rfl⟩
  have HGG := Lib.hid hg
  have HN := Lib.hid hn
  rw [← hg] at KZ
  clear HG hg hn
  go_enter Tryz.func19, Tryz.ntmps19
  go_wp2_with (at_make; refine wpList_make_three rfl _ _ _ 43 rfl Tryz.underlying23 _ _ _ _ info_frac9 n rfl rfl (by omega) (by omega) ?_; intro w1 hr1 hb1 hs1; refine halt ?_)
  refine go_on ?_
  have HB1 := Lib.hid hb1
  have HR0 : Hid (FracsTo w1 w.heap.size n 0 g) := Lib.hid ⟨_, hr1, fun i _ => ⟨none, 0, 0, false, none, 0, 0, rfl, fun h => absurd h (Nat.not_lt_zero _)⟩⟩
  clear hr1 hb1 hs1
  go_wp2_with fail
  go_loopw [10] (fun iv wr => ∃ i : Nat, i ≤ n ∧ iv = .int .i64 i ∧ Hid (FracsTo wr w.heap.size n i g) ∧ Hid (Below w.heap.size w wr)) (fun iv _ => n - (intOf iv).toNat)
  case atStart => exact ⟨0, Nat.zero_le _, rfl, HR0, HB1⟩
  case round =>
    obtain ⟨i, hi, rfl, hR, hB⟩ := hrel
    obtain ⟨wo, rfl⟩ : ∃ wo : World, wo = wr := ⟨_, rfl⟩
    by_cases hin : i < n
    · have t0 : decide ((i : Int) < (n : Int)) = true := by simp; omega
      go_wp2_with fail
      refine (KZ.out _ _ hin hB.out).mono ?_
      rintro en2 w2 ⟨⟨b2, a2, n2, c2, a2', n2', c2', rfl, f2⟩, hb2⟩
      have KF := Lib.hid (fix_f f2)
      obtain ⟨Q, hQ⟩ : ∃ Q, Q = g i := ⟨_, rfl⟩
      have HQ := Lib.hid hQ
      rw [← hQ] at KF
      clear f2 hQ
      go_wp2_with fail
      refine KF.out.mono ?_
      rintro en3 w3 ⟨⟨v3, rfl, f3, -⟩, hb3⟩
      obtain ⟨a3, n3, c3, i3, j3, k3, hq3⟩ := frac_form f3
      subst hq3
      have hz3 := below_trans hb2 hb3
      have HF3 := Lib.hid f3
      have HB3 := Lib.hid (below_trans hB.out hz3)
      obtain ⟨f, hr4, he4⟩ := hR.out.below hz3
      have HR4 := Lib.hid hr4
      have HE4 := Lib.hid he4
      obtain ⟨bq, hbq⟩ : ∃ bq, bq = decide (Q.num < 0) := ⟨_, rfl⟩
      rw [← hbq] at HF3
      rw [← hbq]
      rw [HQ.out] at HF3
      clear f3 hb2 hb3 hz3 hr4 he4 hbq
      go_wp2_with ((with_reducible refine at_store ?_); refine wpList_store_three rfl _ _ _ rfl w.heap.size n i rfl _ _ _ rfl _ f HR4.out hin rfl frac_one ?_; intro w5 hr5 hon5; refine halt ?_)
      refine go_on ?_
      have HR5 := Lib.hid (FracsTo.store HR4.out HE4.out HF3.out hr5 hon5)
      have HB5 := Lib.hid (below_only HB3.out hon5 (Nat.le_refl _))
      clear hr5 hon5
      go_wp2_with fail
      go_roundw
      case rel => exact ⟨i + 1, by omega, by go_num, HR5, HB5⟩
      case measure => simp [intOf]; omega
    · have t0 : decide ((i : Int) < (n : Int)) = false := by simp; omega
      obtain rfl : i = n := by omega
      have HE : Hid (ListV wo (.slice (some ⟨w.heap.size, 0, none⟩) i i) qs) := Lib.hid ⟨w.heap.size, by rw [← HN.out], by rw [← HN.out, ← HGG.out]; exact hR.out⟩
      go_wp2_with fail
      go_ret
      exact ⟨⟨_, rfl, HE.out, fun g h => by have h9 : some w.heap.size = some g := h; have := Option.some.inj h9; omega⟩, hB.out⟩
set_option maxRecDepth 8000 in
set_option maxHeartbeats 4000000 in
theorem read_t {w : World} {n p : Nat} {qs : List Rat} (HG : ∀ i w', i < n → Below w.heap.size w w' → Calls Tryz.prog 53 #[.int .i64 (i : Nat), .pointer (some ⟨p, 0, none⟩)] w' (ReadI w' (nthQ qs i))) (hn : n = qs.length) (hn1 : n ≤ 1000) :
    Calls Tryz.prog 19 #[.int .i64 (n : Nat), .func (.func 53) #[] #[.pointer (some ⟨p, 0, none⟩)]] w fun e w' => (∃ r, e = .returned r ∧ ListV w' r qs ∧ ∀ g, r.ownBlock = some g → w.heap.size ≤ g) ∧ Below w.heap.size w w' := by
  have KZ := Lib.hid HG
  obtain ⟨g, hg⟩ : ∃ g : Nat → Rat, g = nthQ qs := ⟨_, rfl⟩
  have HGG := Lib.hid hg
  have HN := Lib.hid hn
  rw [← hg] at KZ
  clear HG hg hn
  go_enter Tryz.func19, Tryz.ntmps19
  go_wp2_with (at_make; refine wpList_make_three rfl _ _ _ 43 rfl Tryz.underlying23 _ _ _ _ info_frac9 n rfl rfl (by omega) (by omega) ?_; intro w1 hr1 hb1 hs1; refine halt ?_)
  refine go_on ?_
  have HB1 := Lib.hid hb1
  have HR0 : Hid (FracsTo w1 w.heap.size n 0 g) := Lib.hid ⟨_, hr1, fun i _ => ⟨none, 0, 0, false, none, 0, 0, rfl, fun h => absurd h (Nat.not_lt_zero _)⟩⟩
  clear hr1 hb1 hs1
  go_wp2_with fail
  go_loopw [10] (fun iv wr => ∃ i : Nat, i ≤ n ∧ iv = .int .i64 i ∧ Hid (FracsTo wr w.heap.size n i g) ∧ Hid (Below w.heap.size w wr)) (fun iv _ => n - (intOf iv).toNat)
  case atStart => exact ⟨0, Nat.zero_le _, rfl, HR0, HB1⟩
  case round =>
    obtain ⟨i, hi, rfl, hR, hB⟩ := hrel
    obtain ⟨wo, rfl⟩ : ∃ wo : World, wo = wr := ⟨_, rfl⟩
    by_cases hin : i < n
    · have t0 : decide ((i : Int) < (n : Int)) = true := by simp; omega
      go_wp2_with fail
      refine (KZ.out _ _ hin hB.out).mono ?_
      rintro en2 w2 ⟨⟨b2, a2, n2, c2, a2', n2', c2', rfl, f2⟩, hb2⟩
      have KF := Lib.hid (fix_f f2)
      obtain ⟨Q, hQ⟩ : ∃ Q, Q = g i := ⟨_, rfl⟩
      have HQ := Lib.hid hQ
      rw [← hQ] at KF
      clear f2 hQ
      go_wp2_with fail
      refine KF.out.mono ?_
      rintro en3 w3 ⟨⟨v3, rfl, f3, -⟩, hb3⟩
      obtain ⟨a3, n3, c3, i3, j3, k3, hq3⟩ := frac_form f3
      subst hq3
      have hz3 := below_trans hb2 hb3
      have HF3 := Lib.hid f3
      have HB3 := Lib.hid (below_trans hB.out hz3)
      obtain ⟨f, hr4, he4⟩ := hR.out.below hz3
      have HR4 := Lib.hid hr4
      have HE4 := Lib.hid he4
      obtain ⟨bq, hbq⟩ : ∃ bq, bq = decide (Q.num < 0) := ⟨_, rfl⟩
      rw [← hbq] at HF3
      rw [← hbq]
      rw [HQ.out] at HF3
      clear f3 hb2 hb3 hz3 hr4 he4 hbq
      go_wp2_with ((with_reducible refine at_store ?_); refine wpList_store_three rfl _ _ _ rfl w.heap.size n i rfl _ _ _ rfl _ f HR4.out hin rfl frac_one ?_; intro w5 hr5 hon5; refine halt ?_)
      refine go_on ?_
      have HR5 := Lib.hid (FracsTo.store HR4.out HE4.out HF3.out hr5 hon5)
      have HB5 := Lib.hid (below_only HB3.out hon5 (Nat.le_refl _))
      clear hr5 hon5
      go_wp2_with fail
      go_roundw
      case rel => exact ⟨i + 1, by omega, by go_num, HR5, HB5⟩
      case measure => simp [intOf]; omega
    · have t0 : decide ((i : Int) < (n : Int)) = false := by simp; omega
      obtain rfl : i = n := by omega
      have HE : Hid (ListV wo (.slice (some ⟨w.heap.size, 0, none⟩) i i) qs) := Lib.hid ⟨w.heap.size, by rw [← HN.out], by rw [← HN.out, ← HGG.out]; exact hR.out⟩
      go_wp2_with fail
      go_ret
      exact ⟨⟨_, rfl, HE.out, fun g h => by have h9 : some w.heap.size = some g := h; have := Option.some.inj h9; omega⟩, hB.out⟩
end Go.Proofs.YtafenoohjcpjgaaGreat
