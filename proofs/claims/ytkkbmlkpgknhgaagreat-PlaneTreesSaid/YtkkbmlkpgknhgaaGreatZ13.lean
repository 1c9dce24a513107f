import Derived.Test.YtkkbmlkpgknhgaaGreatZ12
import Derived.Deep.DrawnRows
set_option maxRecDepth 100000
set_option maxHeartbeats 16000000
namespace Go.Proofs.YtkkbmlkpgknhgaaGreat
open Go.ChangeShapes Go.WideShapes Go.ChangeAt Go.RowKit
variable {N R V c c1 c2 fc fn fuel g gc gn n n1 n2 rc rn : Nat} {W w w' : World} {a a1 a2 fa ga ra : Option Addr} {b : Bool} {rs : List (List Rat × Int × Rat)} {v : Value} {z : Int}
theorem j9x {α : Type} {Pr : Nat → α → Prop} (h : ∀ i, i < n → ∃ x, Pr i x) : ∃ l : List α, l.length = n ∧ ∀ i x, l[i]? = some x → Pr i x := by
 induction n with
 | zero => exact ⟨[], rfl, fun i x h => by simp at h⟩
 | succ n ih =>
  obtain ⟨l, hl, hp⟩ := ih (fun i hi => h i (by omega))
  obtain ⟨x, hx⟩ := h n (by omega)
  refine ⟨l ++ [x], by simp [hl], fun i y hy => ?_⟩
  by_cases hi : i < l.length
  ·
   rw [List.getElem?_append_left hi] at hy
   exact hp i y hy
  ·
   have h9 : i = n := by
    have := (List.getElem?_eq_some_iff.1 hy).1
    simp at this; omega
   subst h9
   rw [← hl] at hy
   simp at hy
   subst hy
   exact hx

theorem w1q {H : Type} {enc : TypeId × Value → H} {x : DataW H × List MemPlace}
  (h : DataW.trod enc Tryz.prog W 0 (fun _ => true) true fuel 23 [v] = some x) : ∃ a n c, g1q W v a n c := by
 have hv : ∃ a n c, v = .slice a n c := by
  rcases DataW.trod_slice Tryz.underlying23 h with ⟨h0, _⟩ | ⟨a', len, cap, elems, rest, m, _, hcs, _⟩
  ·
   simp at h0; exact ⟨_, _, _, h0⟩
  ·
   simp at hcs; exact ⟨_, _, _, hcs⟩
 obtain ⟨a, n, c, rfl⟩ := hv
 exact g1x (d := x.1) (p := x.2) ⟨fuel, by simpa [Value.cells] using h⟩ ⟨a, n, c, rfl⟩

theorem u0j : Tryz.prog.cellsOf 4 = 1 := by kernel_rfl
theorem z3w : Tryz.prog.cellsOf 45 = 5 := by kernel_rfl
def z7k (w : World) (cs : List Value) : Prop :=
 ∃ a1 n1 c1 z b a2 n2 c2 a3 n3 c3, cs = [.slice a1 n1 c1, .int .i64 z, .bool b, .slice a2 n2 c2, .slice a3 n3 c3] ∧ g1q w (.slice a1 n1 c1) a1 n1 c1 ∧ -9223372036854775808 ≤ z ∧ z ≤ 9223372036854775807 ∧
  q0x w (.agg #[.bool b, .slice a2 n2 c2, .slice a3 n3 c3]) b a2 n2 c2 a3 n3 c3
theorem a2q {H : Type} {enc : TypeId × Value → H} {base : Nat} {x : DataW H × List MemPlace}
  (h : DataW.trod enc Tryz.prog W base (fun _ => true) true fuel 3 [v] = some x) : ∃ z, v = .int .i64 z ∧ -9223372036854775808 ≤ z ∧ z ≤ 9223372036854775807 := by
 obtain ⟨z, hz, _, hw⟩ := DataW.trod_int Tryz.underlying3 h
 simp at hz
 refine ⟨z, hz, ?_⟩
 have m1 : IntKind.i64.min = -9223372036854775808 := by decide
 have m2 : IntKind.i64.max = 9223372036854775807 := by decide
 simpa only [Lit.wf, m1, m2, Bool.and_eq_true, decide_eq_true_eq] using hw
theorem x6k {H : Type} {enc : TypeId × Value → H} {cs : List Value} {x : DataW H × List MemPlace}
  (h : DataW.trod enc Tryz.prog W 0 (fun _ => true) true fuel 45 cs = some x) : z7k W cs := by
 obtain ⟨xs, n, _, rfl, hl, hlen, hf⟩ := DataW.trod_struct Tryz.underlying45 h
 rw [z3w] at hl
 obtain ⟨v0, v1, v2, v3, v4, rfl⟩ : ∃ v0 v1 v2 v3 v4, cs = [v0, v1, v2, v3, v4] := by
  match cs, hl with
  | [c0, c1, c2, c3, c4], _ => exact ⟨c0, c1, c2, c3, c4, rfl⟩
 obtain ⟨y0, y1, y2, rfl⟩ : ∃ y0 y1 y2, xs = [y0, y1, y2] := by
  match xs, hlen with
  | [c0, c1, c2], _ => exact ⟨c0, c1, c2, rfl⟩
 have h0 := hf 0 _ rfl
 have h1 := hf 1 _ rfl
 have h2 := hf 2 _ rfl
 have h0' : DataW.trod enc Tryz.prog W 0 (fun _ => true) true n 23 [v0] = some y0 := h0
 have h1' : DataW.trod enc Tryz.prog W 0 (fun _ => true) true n 3 [v1] = some y1 := h1
 have h2' : DataW.trod enc Tryz.prog W 0 (fun _ => true) true n 43 [v2, v3, v4] = some y2 := h2
 obtain ⟨a1, n1, c1, hL⟩ := w1q h0'
 obtain rfl := hL.1
 obtain ⟨z, rfl, hz1, hz2⟩ := a2q h1'
 obtain ⟨b, a2, n2, c2, a3, n3, c3, hcs, hF⟩ := j6k h2'
 simp only [List.cons.injEq, and_true] at hcs
 obtain ⟨rfl, rfl, rfl⟩ := hcs
 exact ⟨a1, n1, c1, z, b, a2, n2, c2, a3, n3, c3, rfl, hL, hz1, hz2, hF⟩

def u3w (w : World) (a : Option Addr) (n : Nat) : Prop := ∀ i, i < n → ∃ B off b, a = some ⟨B, off, none⟩ ∧ w.cell? ⟨B, off + i, none⟩ = some (.bool b)
theorem v9w {H : Type} {enc : TypeId × Value → H} {x : DataW H × List MemPlace}
  (h : DataW.trod enc Tryz.prog W 0 (fun _ => true) true fuel 22 [v] = some x) : ∃ a n c, v = .slice a n c ∧ u3w W a n := by
 rcases DataW.trod_slice Tryz.underlying22 h with ⟨h0, _⟩ | ⟨a', len, cap, elems, rest, m, _, hcs, _, _, hl, hm, hlen, hel, _, _⟩
 ·
  simp at h0
  exact ⟨none, 0, 0, h0, fun i hi => absurd hi (Nat.not_lt_zero i)⟩
 ·
  simp at hcs
  subst hcs
  refine ⟨_, _, _, rfl, fun i hi => ?_⟩
  have each : ∀ j, j < len → ∃ b, W.cell? (a'.add j) = some (.bool b) := by
   intro j hj
   have h1 := hel j hj
   rw [u0j, List.getElem?_eq_getElem (by omega), Option.bind_eq_some_iff, Nat.mul_one] at h1
   obtain ⟨cs, hc1, hc2⟩ := h1
   obtain ⟨-, hcl, hcell⟩ := World.cells?_some hc1
   obtain ⟨b, rfl, _⟩ := DataW.trod_bool Tryz.underlying4 hc2
   have e0 : W.cell? ((a'.add j).add 0) = some (.bool b) := hcell 0 (by omega)
   exact ⟨b, e0⟩
  obtain ⟨b0, e0⟩ := each 0 (by omega)
  have e0' : W.cell? a' = _ := e0
  obtain ⟨B, off, rfl, -⟩ := i1q e0'
  obtain ⟨b, e1⟩ := each i hi
  rw [e8q] at e1
  exact ⟨B, off, b, rfl, e1⟩

def u4j (w : World) (a : Option Addr) (n : Nat) : Prop := ∀ i, i < n → ∃ B off v0 v1 v2 v3 v4, a = some ⟨B, off, none⟩ ∧ z7k w [v0, v1, v2, v3, v4] ∧
 w.cell? ⟨B, off + i * 5, none⟩ = some v0 ∧ w.cell? ⟨B, off + i * 5 + 1, none⟩ = some v1 ∧ w.cell? ⟨B, off + i * 5 + 2, none⟩ = some v2 ∧ w.cell? ⟨B, off + i * 5 + 3, none⟩ = some v3 ∧ w.cell? ⟨B, off + i * 5 + 4, none⟩ = some v4
theorem u2k {H : Type} {enc : TypeId × Value → H} {x : DataW H × List MemPlace}
  (h : DataW.trod enc Tryz.prog W 0 (fun _ => true) true fuel 24 [v] = some x) : ∃ a n c, v = .slice a n c ∧ u4j W a n := by
 rcases DataW.trod_slice Tryz.underlying24 h with ⟨h0, _⟩ | ⟨a', len, cap, elems, rest, m, _, hcs, _, _, hl, hm, hlen, hel, _, _⟩
 ·
  simp at h0
  exact ⟨none, 0, 0, h0, fun i hi => absurd hi (Nat.not_lt_zero i)⟩
 ·
  simp at hcs
  subst hcs
  refine ⟨_, _, _, rfl, fun i hi => ?_⟩
  have each : ∀ j, j < len → ∃ cs, W.cells? 0 (a'.add (j * 5)) 5 = some cs ∧ z7k W cs := by
   intro j hj
   have h1 := hel j hj
   rw [z3w, List.getElem?_eq_getElem (by omega), Option.bind_eq_some_iff] at h1
   obtain ⟨cs, hc1, hc2⟩ := h1
   exact ⟨cs, hc1, x6k hc2⟩
  have hsp : ∃ B off, a' = ⟨B, off, none⟩ := by
   obtain ⟨cs, hc1, hc2⟩ := each 0 (by omega)
   obtain ⟨a1, n1, c1, z, b, a2, n2, c2, a3, n3, c3, rfl, -⟩ := hc2
   obtain ⟨-, -, hcell⟩ := World.cells?_some hc1
   have e0 := hcell 0 (by omega)
   rw [Nat.zero_mul] at e0
   have e0' : W.cell? a' = _ := e0
   obtain ⟨B, off, h, -⟩ := i1q e0'
   exact ⟨B, off, h⟩
  obtain ⟨B, off, rfl⟩ := hsp
  obtain ⟨cs, hc1, hc2⟩ := each i hi
  obtain ⟨a1, n1, c1, z, b, a2, n2, c2, a3, n3, c3, rfl, hR⟩ := id hc2
  obtain ⟨-, -, hcell⟩ := World.cells?_some hc1
  have e0 := hcell 0 (by omega)
  have e1 := hcell 1 (by omega)
  have e2 := hcell 2 (by omega)
  have e3 := hcell 3 (by omega)
  have e4 := hcell 4 (by omega)
  simp only [e8q, Nat.add_zero] at e0 e1 e2 e3 e4
  exact ⟨B, off, _, _, _, _, _, rfl, hc2, e0, e1, e2, e3, e4⟩

def q3z (w : World) (v : Value) (z : Int) (fa : Option Addr) (fn fc : Nat) (ga : Option Addr) (gn gc : Nat) (ra : Option Addr) (rn rc : Nat) : Prop :=
 v = .agg #[.int .i64 z, .slice fa fn fc, .slice ga gn gc, .slice ra rn rc] ∧ -9223372036854775808 ≤ z ∧ z ≤ 9223372036854775807 ∧ u3w w fa fn ∧ g1q w (.slice ga gn gc) ga gn gc ∧ u4j w ra rn
theorem u0v : Tryz.prog.cellsOf 26 = 4 := by kernel_rfl
theorem g2x {H : Type} {enc : TypeId × Value → H} {d : DataW H} {p : List MemPlace}
  (hv : Value.okWide Tryz.prog W .any 0 26 v) (h : DataW.Trod enc Tryz.prog W 0 (fun _ => true) true 26 v d p) :
  ∃ z fa fn fc ga gn gc ra rn rc, q3z W v z fa fn fc ga gn gc ra rn rc := by
 obtain ⟨v0, v1, v2, v3, y0, y1, y2, y3, m, rfl, rfl, rfl, h0, h1, h2, h3⟩ := Go.Joins.open_agg4 Tryz.underlying26 (by kernel_rfl) u0v hv h
 obtain ⟨z, rfl, hz1, hz2⟩ := a2q h0
 obtain ⟨fa, fn, fc, rfl, hB⟩ := v9w h1
 obtain ⟨ga, gn, gc, hL⟩ := w1q h2
 obtain rfl := hL.1
 obtain ⟨ra, rn, rc, rfl, hR⟩ := u2k h3
 exact ⟨z, fa, fn, fc, ga, gn, gc, ra, rn, rc, rfl, hz1, hz2, hB, hL, hR⟩

structure Pm where
 vars : Int
 free : List Bool
 goal : List Rat
 rows : List (List Rat × Int × Rat)
variable {P : Pm}
def j2x (N : Nat) (w : World) (B o : Nat) (r : List Rat × Int × Rat) : Prop :=
 ∃ a1 c1 b a2 n2 c2 a3 n3 c3, w.cell? ⟨B, o, none⟩ = some (.slice a1 r.1.length c1) ∧ w.cell? ⟨B, o + 1, none⟩ = some (.int .i64 r.2.1) ∧ w.cell? ⟨B, o + 2, none⟩ = some (.bool b) ∧ w.cell? ⟨B, o + 3, none⟩ = some (.slice a2 n2 c2) ∧ w.cell? ⟨B, o + 4, none⟩ = some (.slice a3 n3 c3) ∧
  z1q N w (.slice a1 r.1.length c1) r.1 ∧ v6q N w (.agg #[.bool b, .slice a2 n2 c2, .slice a3 n3 c3]) r.2.2 ∧ -9223372036854775808 ≤ r.2.1 ∧ r.2.1 ≤ 9223372036854775807
theorem j2x.below {B o : Nat} {r : List Rat × Int × Rat} (h : j2x N w B o r) (hb : Below w.heap.size w w') : j2x N w' B o r := by
 obtain ⟨a1, c1, b, a2, n2, c2, a3, n3, c3, h0, h1, h2, h3, h4, hl, hf, hz⟩ := h
 exact ⟨a1, c1, b, a2, n2, c2, a3, n3, c3, q3q hb h0, q3q hb h1, q3q hb h2, q3q hb h3, q3q hb h4, hl.below hb, hf.below hb, hz⟩
def d6q (N : Nat) (w : World) (a : Option Addr) (rs : List (List Rat × Int × Rat)) : Prop := ∀ i r, rs[i]? = some r → ∃ B off, a = some ⟨B, off, none⟩ ∧ j2x N w B (off + i * 5) r
theorem d6q.below (h : d6q N w a rs) (hb : Below w.heap.size w w') : d6q N w' a rs := fun i r hr => by
 obtain ⟨B, off, ha, hf⟩ := h i r hr
 exact ⟨B, off, ha, hf.below hb⟩
def f3q (w : World) (a : Option Addr) (bs : List Bool) : Prop := ∀ i b, bs[i]? = some b → ∃ B off, a = some ⟨B, off, none⟩ ∧ w.cell? ⟨B, off + i, none⟩ = some (.bool b)
theorem f3q.below {bs : List Bool} (h : f3q w a bs) (hb : Below w.heap.size w w') : f3q w' a bs := fun i b hr => by
 obtain ⟨B, off, ha, hf⟩ := h i b hr
 exact ⟨B, off, ha, q3q hb hf⟩
def y9q (N : Nat) (w : World) (v : Value) (P : Pm) : Prop :=
 ∃ fa fc ga gc ra rc, v = .agg #[.int .i64 P.vars, .slice fa P.free.length fc, .slice ga P.goal.length gc, .slice ra P.rows.length rc] ∧ -9223372036854775808 ≤ P.vars ∧ P.vars ≤ 9223372036854775807 ∧ f3q w fa P.free ∧ z1q N w (.slice ga P.goal.length gc) P.goal ∧ d6q N w ra P.rows
theorem y9q.below (h : y9q N w v P) (hb : Below w.heap.size w w') : y9q N w' v P := by
 obtain ⟨fa, fc, ga, gc, ra, rc, hv, h1, h2, hf, hg, hr⟩ := h
 exact ⟨fa, fc, ga, gc, ra, rc, hv, h1, h2, hf.below hb, hg.below hb, hr.below hb⟩

def u3h (w : World) (N V : Nat) (cs : List Value) : Prop := ∃ a1 n1 c1 z b a2 n2 c2 a3 n3 c3, cs = [.slice a1 n1 c1, .int .i64 z, .bool b, .slice a2 n2 c2, .slice a3 n3 c3] ∧ n1 ≤ V ∧ r8q N n1 (y3q w a1 1) (y3q w a1 2) = true ∧ n2 ≤ N ∧ n3 ≤ N
theorem q3z.progF (h : q3z w v z fa fn fc ga gn gc ra rn rc) (hN : N ≤ 1073741824)
  (hg : r8q N gn (y3q w ga 1) (y3q w ga 2) = true)
  (hr : ∀ i, i < rn → ∃ B off v0 v1 v2 v3 v4, ra = some ⟨B, off, none⟩ ∧ u3h w N V [v0, v1, v2, v3, v4] ∧ w.cell? ⟨B, off + i * 5, none⟩ = some v0 ∧ w.cell? ⟨B, off + i * 5 + 1, none⟩ = some v1 ∧ w.cell? ⟨B, off + i * 5 + 2, none⟩ = some v2 ∧ w.cell? ⟨B, off + i * 5 + 3, none⟩ = some v3 ∧ w.cell? ⟨B, off + i * 5 + 4, none⟩ = some v4) :
  ∃ P : Pm, y9q N w v P ∧ P.vars = z ∧ P.free.length = fn ∧ P.goal.length = gn ∧ P.rows.length = rn ∧ ∀ r ∈ P.rows, r.1.length ≤ V := by
 obtain ⟨rfl, hz1, hz2, hB, hL, hR⟩ := h
 obtain ⟨bs, hbl, hbs⟩ := j9x (n := fn) (Pr := fun i b => ∃ B off, fa = some ⟨B, off, none⟩ ∧ w.cell? ⟨B, off + i, none⟩ = some (.bool b)) (fun i hi => by
  obtain ⟨B, off, b, ha, hc⟩ := hB i hi
  exact ⟨b, B, off, ha, hc⟩)
 obtain ⟨qs, hql, hq⟩ := hL.listF hN hg
 obtain ⟨rs, hrl, hrs⟩ := j9x (n := rn) (Pr := fun i r => (∃ B off, ra = some ⟨B, off, none⟩ ∧ j2x N w B (off + i * 5) r) ∧ r.1.length ≤ V) (fun i hi => by
  obtain ⟨B, off, v0, v1, v2, v3, v4, rfl, ⟨a1, n1, c1, z1, b, a2, n2, c2, a3, n3, c3, hcs, hL1, hz3, hz4, hF⟩, e0, e1, e2, e3, e4⟩ := hR i hi
  obtain ⟨B', off', u0, u1, u2, u3, u4, ha', ⟨a1', n1', c1', z1', b', a2', n2', c2', a3', n3', c3', hcs', hV, hW, hn2, hn3⟩, f0, f1, f2, f3, f4⟩ := hr i hi
  simp only [Option.some.injEq, Addr.mk.injEq, and_true] at ha'
  obtain ⟨rfl, rfl⟩ := ha'
  simp only [List.cons.injEq, and_true] at hcs hcs'
  obtain ⟨rfl, rfl, rfl, rfl, rfl⟩ := hcs
  obtain ⟨rfl, rfl, rfl, rfl, rfl⟩ := hcs'
  rw [e0] at f0
  rw [e3] at f3
  rw [e4] at f4
  simp only [Option.some.injEq, Value.slice.injEq] at f0 f3 f4
  obtain ⟨rfl, rfl, rfl⟩ := f0
  obtain ⟨rfl, rfl, rfl⟩ := f3
  obtain ⟨rfl, rfl, rfl⟩ := f4
  obtain ⟨ps, hpl, hp⟩ := hL1.listF hN hW
  obtain ⟨q, hqf⟩ := hF.few hN hn2 hn3
  subst hpl
  exact ⟨(ps, z1, q), ⟨B, off, rfl, a1, c1, b, a2, n2, c2, a3, n3, c3, e0, e1, e2, e3, e4, hp, hqf, hz3, hz4⟩, hV⟩)
 subst hbl
 subst hql
 subst hrl
 refine ⟨⟨z, bs, qs, rs⟩, ⟨fa, fc, ga, gc, ra, rc, rfl, hz1, hz2, hbs, hq, fun i r hi => (hrs i r hi).1⟩, rfl, rfl, rfl, rfl, fun r hm => ?_⟩
 obtain ⟨i, hi⟩ := List.getElem?_of_mem hm
 exact (hrs i r hi).2
end Go.Proofs.YtkkbmlkpgknhgaaGreat
namespace Go.Proofs.YtkkbmlkpgknhgaaGreat
open Go.RowKit
attribute [local go_sem ↓] Go.wp_at_zero Go.wp_at_succ
variable {N R V c c1 c2 fc fn fuel g gc gn n n1 n2 rc rn : Nat} {P : Pm} {W w w' : World} {a a1 a2 fa ga ra : Option Addr} {b : Bool} {rs : List (List Rat × Int × Rat)} {v : Value} {z : Int}
theorem g1q.read (h : g1q w v a n c) {i : Nat} (hi : i < n) :
  ∃ B off b a1 n1 c1 a2 n2 c2, a = some ⟨B, off, none⟩ ∧ n1 = y3q w a 1 i ∧ n2 = y3q w a 2 i ∧ ∀ w', Below w.heap.size w w' → w'.cell? ⟨B, off + i * 3, none⟩ = some (.bool b) ∧ w'.cell? ⟨B, off + i * 3 + 1, none⟩ = some (.slice a1 n1 c1) ∧ w'.cell? ⟨B, off + i * 3 + 2, none⟩ = some (.slice a2 n2 c2) := by
 obtain ⟨B, off, b, a1, c1, a2, c2, ha, h0, h1, h2, -⟩ := h.cells hi
 exact ⟨B, off, b, a1, _, c1, a2, _, c2, ha, rfl, rfl, fun w' hb => ⟨q3q hb h0, q3q hb h1, q3q hb h2⟩⟩

theorem g1q.below (h : g1q w v a n c) (hb : Below w.heap.size w w') : g1q w' v a n c := by
 refine ⟨h.1, fun i hi => ?_⟩
 obtain ⟨B, off, b, a1, n1, c1, a2, n2, c2, ha, h0, h1, h2, hF⟩ := h.2 i hi
 refine ⟨B, off, b, a1, n1, c1, a2, n2, c2, ha, q3q hb h0, q3q hb h1, q3q hb h2, hF.1, fun hn => ?_, fun hn => ?_⟩
 ·
  obtain ⟨l, hl, hw⟩ := hF.2.1 hn
  exact ⟨l, hl, hw.below hb⟩
 ·
  obtain ⟨l, hl, hw⟩ := hF.2.2 hn
  exact ⟨l, hl, hw.below hb⟩
theorem g1q.lens (h : g1q w v a n c) (hb : Below w.heap.size w w') {i : Nat} (hi : i < n) : y3q w' a 1 i = y3q w a 1 i ∧ y3q w' a 2 i = y3q w a 2 i := by
 obtain ⟨B, off, b, a1, n1, c1, a2, n2, c2, rfl, h0, h1, h2, -⟩ := h.2 i hi
 have k1 := q3q hb h1
 have k2 := q3q hb h2
 simp only [y3q, h1, h2, k1, k2, and_self]
theorem g1q.few_back (h : g1q w v a n c) (hb : Below w.heap.size w w') (hf : r8q N n (y3q w' a 1) (y3q w' a 2) = true) : r8q N n (y3q w a 1) (y3q w a 2) = true := by
 simp only [r8q, decide_eq_true_eq] at hf ⊢
 intro i hi
 obtain ⟨e1, e2⟩ := h.lens hb hi
 rw [← e1, ← e2]
 exact hf i hi

theorem q4w (hl : g1q w v a n c) (hn : n ≤ 1000) :
  Calls Tryz.prog 16 #[v, .int .i64 N] w fun e w' => (∃ bb, e = .returned (.bool bb) ∧ (bb = true → r8q N n (y3q w a 1) (y3q w a 2) = true)) ∧ Below w.heap.size w w' := by
 have HL := hdd hl
 obtain ⟨rfl, -⟩ := hl
 go_enter Tryz.func16, Tryz.ntmps16
 go_wp2_with fail
 go_loopw [9] (fun iv wr => ∃ i : Nat, i ≤ n ∧ iv = .int .i64 i ∧ Hi (∀ x, x < i → y3q w a 1 x ≤ N ∧ y3q w a 2 x ≤ N) ∧ Hi (Below w.heap.size w wr)) (fun iv _ => n - (intOf iv).toNat)
 case atStart => exact ⟨0, Nat.zero_le _, rfl, hdd (fun x h => absurd h (Nat.not_lt_zero x)), hdd qb⟩
 case round =>
  obtain ⟨i, hi, rfl, hd, hB⟩ := hrel
  obtain ⟨wo, rfl⟩ : ∃ wo : World, wo = wr := ⟨_, rfl⟩
  by_cases hin : i < n
  ·
   have t0 : decide ((i : Int) < (n : Int)) = true := by simp; omega
   obtain ⟨B, off, b, a1, n1, c1, a2, n2, c2, ha, e1, e2, hc⟩ := HL.o.read hin
   obtain ⟨x0, x1, x2⟩ := hc wo hB.o
   have E1 := hdd e1
   have E2 := hdd e2
   have HA := hdd ha
   have HD' : Hi (n1 ≤ N → n2 ≤ N → ∀ x, x < i + 1 → y3q w a 1 x ≤ N ∧ y3q w a 2 x ≤ N) := hdd (fun h1 h2 x hx => by
    by_cases e : x = i
    ·
     subst e; rw [← E1.o, ← E2.o]; exact ⟨h1, h2⟩
    ·
     exact hd.o x (by omega))
   clear hc e1 e2
   subst ha
   go_wp2_with ((with_reducible refine j9q ?_); refine q6q rfl _ _ _ rfl wo.heap.size rfl _ rfl _ _ (heap_alloc_new _ _) v0q rfl x3q ?_; intro w4 h4 hon4; refine y0q ?_)
   have hb4 : Below wo.heap.size wo w4 := q4q ((qb).alloc qm _) hon4 qm
   have HB4 := hdd (q0q hB.o hb4)
   have y0 := q1q h4 0 _ rfl _ qb
   have y1 := q1q h4 1 _ rfl _ qb
   have y2 := q1q h4 2 _ rfl _ qb
   clear h4 hon4 hb4 x0 x1 x2
   refine z2q ?_
   by_cases h1 : N < n1
   ·
    have t1 : decide (N < n1) = true := by simpa using h1
    clear h1
    go_wp2_with fail
    go_ret
    exact ⟨⟨_, rfl, fun h => by cases h⟩, HB4.o⟩
   have t1 : decide (N < n1) = false := by simpa using h1
   by_cases h2 : N < n2
   ·
    have t2 : decide (N < n2) = true := by simpa using h2
    clear h1 h2
    go_wp2_with fail
    go_ret
    exact ⟨⟨_, rfl, fun h => by cases h⟩, HB4.o⟩
   have t2 : decide (N < n2) = false := by simpa using h2
   have HD2 := hdd (HD'.o (by omega) (by omega))
   clear h1 h2
   go_wp2_with fail
   go_roundw
   case rel => exact ⟨i + 1, by omega, by go_num, HD2, HB4⟩
   case measure => simp [intOf]; omega
  ·
   have t0 : decide ((i : Int) < (n : Int)) = false := by simp; omega
   have HE : Hi (r8q N n (y3q w a 1) (y3q w a 2) = true) := hdd (by
    unfold r8q; simp only [decide_eq_true_eq]; intro x hx; exact hd.o x (by omega))
   go_wp2_with fail
   go_ret
   exact ⟨⟨_, rfl, fun _ => HE.o⟩, hB.o⟩

theorem q0x.below (hF : q0x w v b a1 n1 c1 a2 n2 c2) (hb : Below w.heap.size w w') : q0x w' v b a1 n1 c1 a2 n2 c2 := by
 refine ⟨hF.1, fun hn => ?_, fun hn => ?_⟩
 ·
  obtain ⟨l, hl, hw⟩ := hF.2.1 hn
  exact ⟨l, hl, hw.below hb⟩
 ·
  obtain ⟨l, hl, hw⟩ := hF.2.2 hn
  exact ⟨l, hl, hw.below hb⟩
theorem x5y {t : TypeId} {fr : Nat × Nat} (hg : w.heap[g]? = some (.cells #[.bool b, .slice a1 n1 c1, .slice a2 n2 c2] t fr))
  (hF : q0x w (.agg #[.bool b, .slice a1 n1 c1, .slice a2 n2 c2]) b a1 n1 c1 a2 n2 c2) : g1q w (.slice (some ⟨g, 0, none⟩) 1 1) (some ⟨g, 0, none⟩) 1 1 := by
 refine ⟨rfl, fun i hi => ?_⟩
 obtain rfl : i = 0 := by omega
 exact ⟨g, 0, b, a1, n1, c1, a2, n2, c2, rfl, by rw [cell_of_row _ _ _ _ _ _ hg]; rfl, by rw [cell_of_row _ _ _ _ _ _ hg]; rfl, by rw [cell_of_row _ _ _ _ _ _ hg]; rfl, hF⟩
theorem g2y {t : TypeId} {fr : Nat × Nat} (hg : w.heap[g]? = some (.cells #[.bool b, .slice a1 n1 c1, .slice a2 n2 c2] t fr))
  (h : r8q N 1 (y3q w (some ⟨g, 0, none⟩) 1) (y3q w (some ⟨g, 0, none⟩) 2) = true) : n1 ≤ N ∧ n2 ≤ N := by
 simp only [r8q, decide_eq_true_eq] at h
 have h9 := h 0 (by omega)
 have e1 : w.cell? ⟨g, 0 + 0 * 3 + 1, none⟩ = some (.slice a1 n1 c1) := by rw [cell_of_row _ _ _ _ _ _ hg]; rfl
 have e2 : w.cell? ⟨g, 0 + 0 * 3 + 2, none⟩ = some (.slice a2 n2 c2) := by rw [cell_of_row _ _ _ _ _ _ hg]; rfl
 simp only [y3q, e1, e2] at h9
 exact h9

def v9j (w : World) (g : Nat) (z : Int) (fa : Option Addr) (fn fc : Nat) (ga : Option Addr) (gn gc : Nat) (ra : Option Addr) (rn rc : Nat) : Prop :=
 w.heap[g]? = some (.cells #[.int .i64 z, .slice fa fn fc, .slice ga gn gc, .slice ra rn rc] 26 (0, 0))
theorem w0q : (Tryz.prog.info? 45).map (·.size) = some 5 := by kernel_rfl
theorem f0q {a3 : Option Addr} {n3 c3 : Nat} : ∀ v ∈ (#[Value.slice a1 n1 c1, Value.int .i64 z, Value.bool b, Value.slice a2 n2 c2, Value.slice a3 n3 c3] : Array Value).toList, v.oneCell' = true := by
 intro v hv; simp at hv; rcases hv with rfl | rfl | rfl | rfl | rfl <;> rfl

def v9z (w : World) (N V : Nat) (ra : Option Addr) (i : Nat) : Prop := ∃ B off v0 v1 v2 v3 v4, ra = some ⟨B, off, none⟩ ∧ u3h w N V [v0, v1, v2, v3, v4] ∧ w.cell? ⟨B, off + i * 5, none⟩ = some v0 ∧ w.cell? ⟨B, off + i * 5 + 1, none⟩ = some v1 ∧ w.cell? ⟨B, off + i * 5 + 2, none⟩ = some v2 ∧ w.cell? ⟨B, off + i * 5 + 3, none⟩ = some v3 ∧ w.cell? ⟨B, off + i * 5 + 4, none⟩ = some v4
def j9z (w : World) (N V R : Nat) (z : Int) (fn : Nat) (ga : Option Addr) (gn : Nat) (ra : Option Addr) (rn : Nat) : Prop :=
 z ≤ V ∧ rn ≤ R ∧ fn ≤ V ∧ gn ≤ V ∧ r8q N gn (y3q w ga 1) (y3q w ga 2) = true ∧
 ∀ i, i < rn → v9z w N V ra i

theorem x8h (h : q3z w v z fa fn fc ga gn gc ra rn rc) (hV : V ≤ 1000) (hR : R ≤ 1000) :
  Calls Tryz.prog 5 #[v, .int .i64 V, .int .i64 R] w fun e w' => (∃ bb, e = .returned (.bool bb) ∧ (bb = true → j9z w 6 V R z fn ga gn ra rn)) ∧ Below w.heap.size w w' := by
 have HP := hdd h
 obtain ⟨rfl, hz1, hz2, -⟩ := h
 obtain ⟨w1, hw1⟩ := qx (w.alloc (Obj.cells #[.int .i64 z, .slice fa fn fc, .slice ga gn gc, .slice ra rn rc] 26))
 have HB1 : Hi (Below w.heap.size w w1) := hdd (by rw [hw1]; exact (qb).alloc qm _)
 have HX : Hi (v9j w1 w.heap.size z fa fn fc ga gn gc ra rn rc) := hdd (by rw [hw1]; exact heap_alloc_new w _)
 have HW1 := hdd hw1.symm
 clear hw1
 have RX := hdd (q1q HX.o)
 have hb1 := Below.refl w1.heap.size w1
 obtain ⟨x0, x1, x2, x3⟩ := qz RX.o hb1
 by_cases h1 : (V : Int) < z
 ·
  have t1 : decide ((V : Int) < z) = true := by simpa using h1
  clear h1
  go_enter Tryz.func5, Tryz.ntmps5
  go_wp2_with fail
  rw [HW1.o]
  go_ret
  exact ⟨⟨_, rfl, fun h => by cases h⟩, HB1.o⟩
 have t1 : decide ((V : Int) < z) = false := by simpa using h1
 by_cases h2 : R < rn
 ·
  have t2 : decide (R < rn) = true := by simpa using h2
  clear h1 h2
  go_enter Tryz.func5, Tryz.ntmps5
  go_wp2_with fail
  rw [HW1.o]
  go_ret
  exact ⟨⟨_, rfl, fun h => by cases h⟩, HB1.o⟩
 have t2 : decide (R < rn) = false := by simpa using h2
 by_cases h3 : V < fn
 ·
  have t3 : decide (V < fn) = true := by simpa using h3
  clear h1 h2 h3
  go_enter Tryz.func5, Tryz.ntmps5
  go_wp2_with fail
  rw [HW1.o]
  go_ret
  exact ⟨⟨_, rfl, fun h => by cases h⟩, HB1.o⟩
 have t3 : decide (V < fn) = false := by simpa using h3
 by_cases h4 : V < gn
 ·
  have t4 : decide (V < gn) = true := by simpa using h4
  clear h1 h2 h3 h4
  go_enter Tryz.func5, Tryz.ntmps5
  go_wp2_with fail
  rw [HW1.o]
  go_ret
  exact ⟨⟨_, rfl, fun h => by cases h⟩, HB1.o⟩
 have t4 : decide (V < gn) = false := by simpa using h4
 have HLE : Hi (z ≤ V ∧ rn ≤ R ∧ fn ≤ V ∧ gn ≤ V) := hdd ⟨by omega, by omega, by omega, by omega⟩
 have hrn : rn ≤ 1000 := by omega
 have KG := hdd (fun w' (hb : Below w.heap.size w w') => q4w (w := w') (N := 6) (HP.o.2.2.2.2.1.below hb) (by omega))
 clear h1 h2 h3 h4
 go_enter Tryz.func5, Tryz.ntmps5
 go_wp2_with fail
 rw [HW1.o]
 refine (KG.o _ HB1.o).mono ?_
 rintro en2 w2 ⟨⟨bb2, rfl, hg2⟩, hb2⟩
 have HZ2 := hdd hb2
 cases bb2 with
 | false =>
  clear hg2
  go_wp2_with fail
  go_ret
  exact ⟨⟨_, rfl, fun h => by cases h⟩, q0q HB1.o HZ2.o⟩
 | true =>
  have HG2 := hdd (hg2 rfl)
  clear hg2
  obtain ⟨x0, x1, x2, x3⟩ := qz RX.o HZ2.o
  go_wp2_with fail
  go_loopw [43] (fun iv wr => ∃ i : Nat, i ≤ rn ∧ iv = .int .i64 i ∧ Hi (∀ x, x < i → v9z w 6 V ra x) ∧ Hi (Below w1.heap.size w1 wr)) (fun iv _ => rn - (intOf iv).toNat)
  case atStart => exact ⟨0, Nat.zero_le _, rfl, hdd (fun x h => absurd h (Nat.not_lt_zero x)), HZ2⟩
  case round =>
   obtain ⟨i, hi, rfl, hd, hB⟩ := hrel
   obtain ⟨wo, rfl⟩ : ∃ wo : World, wo = wr := ⟨_, rfl⟩
   by_cases hin : i < rn
   ·
    have t0 : decide ((i : Int) < (rn : Int)) = true := by simp; omega
    obtain ⟨B, off, v0, v1, v2, v3, v4, ha, ⟨a1, n1, c1, z1, b, a2, n2, c2, a3, n3, c3, hcs, hL1, hz3, hz4, hF⟩, e0, e1, e2, e3, e4⟩ := HP.o.2.2.2.2.2 i hin
    subst ha
    simp only [List.cons.injEq, and_true] at hcs
    obtain ⟨rfl, rfl, rfl, rfl, rfl⟩ := hcs
    have HW := hdd (q0q HB1.o hB.o)
    have HOK : Hi (n1 ≤ V → r8q 6 n1 (y3q w a1 1) (y3q w a1 2) = true → n2 ≤ 6 → n3 ≤ 6 → ∀ x, x < i + 1 → v9z w 6 V (some ⟨B, off, none⟩) x) := hdd (fun h1 h2 h3 h4 x hx => by
     by_cases e : x = i
     ·
      subst e
      exact ⟨B, off, _, _, _, _, _, rfl, ⟨a1, n1, c1, z1, b, a2, n2, c2, a3, n3, c3, rfl, h1, h2, h3, h4⟩, e0, e1, e2, e3, e4⟩
     ·
      exact hd.o x (by omega))
    have f0 := q3q HW.o e0
    have f1 := q3q HW.o e1
    have f2 := q3q HW.o e2
    have f3 := q3q HW.o e3
    have f4 := q3q HW.o e4
    have KA := hdd (fun w' (hb : Below w.heap.size w w') (hn : n1 ≤ 1000) => q4w (w := w') (N := 6) (hL1.below hb) hn)
    have HL1 := hdd hL1
    have HF := hdd hF
    clear e0 e1 e2 e3 e4 hL1 hF hz3 hz4
    go_wp2_with ((with_reducible refine j9q ?_); refine q6q rfl _ _ _ rfl wo.heap.size rfl _ rfl _ _ (heap_alloc_new _ _) w0q rfl f0q ?_; intro w4 h4 hon4; refine y0q ?_)
    have hb4 : Below wo.heap.size wo w4 := q4q ((qb).alloc qm _) hon4 qm
    have HB4 := hdd (q0q hB.o hb4)
    have HW4 := hdd (q0q HW.o hb4)
    have RY := hdd (q1q h4)
    have hb5 := Below.refl w4.heap.size w4
    have y0 := RY.o 0 _ rfl _ hb5
    have y1 := RY.o 1 _ rfl _ hb5
    have y2 := RY.o 2 _ rfl _ hb5
    have y3 := RY.o 3 _ rfl _ hb5
    have y4 := RY.o 4 _ rfl _ hb5
    clear h4 hon4 hb4 f0 f1 f2 f3 f4
    refine z2q ?_
    by_cases h1 : V < n1
    ·
     have u1 : decide (V < n1) = true := by simpa using h1
     clear h1
     go_wp2_with fail
     go_ret
     exact ⟨⟨_, rfl, fun h => by cases h⟩, q0q HB1.o HB4.o⟩
    have u1 : decide (V < n1) = false := by simpa using h1
    have HV1 : Hi (n1 ≤ V) := hdd (by omega)
    clear h1
    go_wp2_with fail
    refine (KA.o _ HW4.o (by have := HV1.o; omega)).mono ?_
    rintro en5 w5 ⟨⟨bb5, rfl, hg5⟩, hb6⟩
    have HZ5 := hdd hb6
    cases bb5 with
    | false =>
     clear hg5
     go_wp2_with fail
     go_ret
     exact ⟨⟨_, rfl, fun h => by cases h⟩, q0q HB1.o (q0q HB4.o HZ5.o)⟩
    | true =>
     have HG5 := hdd (HL1.o.few_back HW4.o (hg5 rfl))
     have y0 := RY.o 0 _ rfl _ hb6
     have y1 := RY.o 1 _ rfl _ hb6
     have y2 := RY.o 2 _ rfl _ hb6
     have y3 := RY.o 3 _ rfl _ hb6
     have y4 := RY.o 4 _ rfl _ hb6
     clear hg5 hb6
     obtain ⟨w6, hw6⟩ := qx (w5.alloc (Obj.cells #[.bool b, .slice a2 n2 c2, .slice a3 n3 c3] 43))
     have HB6 : Hi (Below w5.heap.size w5 w6) := hdd (by rw [hw6]; exact (qb).alloc qm _)
     have HR6 : Hi (w6.heap[w5.heap.size]? = some (.cells #[.bool b, .slice a2 n2 c2, .slice a3 n3 c3] 43 (0, 0))) := hdd (by rw [hw6]; exact heap_alloc_new w5 _)
     have HW6 := hdd (q0q HW4.o (q0q HZ5.o HB6.o))
     have HL6 := hdd (x5y HR6.o (HF.o.below HW6.o))
     have K6 := hdd (q4w (N := 6) HL6.o (by omega))
     have HW6' := hdd hw6.symm
     clear hw6
     go_wp2_with fail
     rw [HW6'.o]
     refine K6.o.mono ?_
     rintro en7 w7 ⟨⟨bb7, rfl, hg7⟩, hb7⟩
     have HZ7 := hdd (q0q HB4.o (q0q HZ5.o (q0q HB6.o hb7)))
     clear y0 y1 y2 y3 y4 hb7
     cases bb7 with
     | false =>
      clear hg7
      go_wp2_with fail
      go_ret
      exact ⟨⟨_, rfl, fun h => by cases h⟩, q0q HB1.o HZ7.o⟩
     | true =>
      have HG7 := hdd (g2y HR6.o (hg7 rfl))
      have HD := hdd (HOK.o HV1.o HG5.o HG7.o.1 HG7.o.2)
      clear hg7
      go_wp2_with fail
      go_roundw
      case rel => exact ⟨i + 1, by omega, by go_num, HD, HZ7⟩
      case measure => simp [intOf]; omega
   ·
    have t0 : decide ((i : Int) < (rn : Int)) = false := by simp; omega
    have HS : Hi (j9z w 6 V R z fn ga gn ra rn) := hdd ⟨HLE.o.1, HLE.o.2.1, HLE.o.2.2.1, HLE.o.2.2.2, HP.o.2.2.2.2.1.few_back HB1.o HG2.o, fun x hx => hd.o x (by omega)⟩
    go_wp2_with fail
    go_ret
    exact ⟨⟨_, rfl, fun _ => HS.o⟩, q0q HB1.o hB.o⟩

theorem z7k.below {cs : List Value} (h : z7k w cs) (hb : Below w.heap.size w w') : z7k w' cs := by
 obtain ⟨a1, n1, c1, z, b, a2, n2, c2, a3, n3, c3, e, hL, h1, h2, hF⟩ := h
 exact ⟨a1, n1, c1, z, b, a2, n2, c2, a3, n3, c3, e, hL.below hb, h1, h2, hF.below hb⟩
theorem q3z.below (h : q3z w v z fa fn fc ga gn gc ra rn rc) (hb : Below w.heap.size w w') : q3z w' v z fa fn fc ga gn gc ra rn rc := by
 obtain ⟨rfl, h1, h2, hB, hL, hR⟩ := h
 refine ⟨rfl, h1, h2, fun i hi => ?_, hL.below hb, fun i hi => ?_⟩
 ·
  obtain ⟨B, off, b, ha, hc⟩ := hB i hi
  exact ⟨B, off, b, ha, q3q hb hc⟩
 ·
  obtain ⟨B, off, v0, v1, v2, v3, v4, ha, h5, e0, e1, e2, e3, e4⟩ := hR i hi
  exact ⟨B, off, v0, v1, v2, v3, v4, ha, h5.below hb, q3q hb e0, q3q hb e1, q3q hb e2, q3q hb e3, q3q hb e4⟩
theorem j9z.back (h : j9z w' N V R z fn ga gn ra rn) (hP : q3z w v z fa fn fc ga gn gc ra rn rc) (hb : Below w.heap.size w w') : j9z w N V R z fn ga gn ra rn := by
 obtain ⟨rfl, -, -, -, hL, hR⟩ := hP
 obtain ⟨h1, h2, h3, h4, h5, h6⟩ := h
 refine ⟨h1, h2, h3, h4, hL.few_back hb h5, fun i hi => ?_⟩
 obtain ⟨B, off, u0, u1, u2, u3, u4, ha, ⟨a1, n1, c1, z1, b, a2, n2, c2, a3, n3, c3, hcs, hV, hW, hn2, hn3⟩, f0, f1, f2, f3, f4⟩ := h6 i hi
 obtain ⟨B', off', v0, v1, v2, v3, v4, ha', ⟨a1', n1', c1', z1', b', a2', n2', c2', a3', n3', c3', hcs', hL1, -, -, -⟩, e0, e1, e2, e3, e4⟩ := hR i hi
 rw [ha] at ha'
 simp only [Option.some.injEq, Addr.mk.injEq, and_true] at ha'
 obtain ⟨rfl, rfl⟩ := ha'
 have g0 := q3q hb e0
 have g1 := q3q hb e1
 have g2 := q3q hb e2
 have g3 := q3q hb e3
 have g4 := q3q hb e4
 rw [g0] at f0
 rw [g1] at f1
 rw [g2] at f2
 rw [g3] at f3
 rw [g4] at f4
 simp only [Option.some.injEq] at f0 f1 f2 f3 f4
 subst f0 f1 f2 f3 f4
 simp only [List.cons.injEq, and_true] at hcs hcs'
 obtain ⟨rfl, rfl, rfl, rfl, rfl⟩ := hcs
 simp only [Value.slice.injEq] at hcs'
 obtain ⟨⟨rfl, rfl, rfl⟩, -⟩ := hcs'
 exact ⟨B, off, _, _, _, _, _, ha, ⟨a1, n1, c1, z1, b, a2, n2, c2, a3, n3, c3, rfl, hV, hL1.few_back hb hW, hn2, hn3⟩, e0, e1, e2, e3, e4⟩
def b2q (z : Int) (r : List Rat × Int × Rat) : Bool := decide ((r.1.length : Int) = z ∧ -1 ≤ r.2.1 ∧ r.2.1 ≤ 1)
def t6q (P : Pm) : Bool := decide (1 ≤ P.vars ∧ (P.free.length : Int) = P.vars ∧ (P.goal.length : Int) = P.vars)
def j7q (P : Pm) : Bool := t6q P && P.rows.all (b2q P.vars)
def x7q (P : Pm) : Int := if j7q P then 0 else 20
theorem d6q.at (h : d6q N w a rs) {i : Nat} (hi : i < rs.length) :
  ∃ r B off a1 c1 b a2 n2 c2 a3 n3 c3, rs[i]? = some r ∧ a = some ⟨B, off, none⟩ ∧ z1q N w (.slice a1 r.1.length c1) r.1 ∧ v6q N w (.agg #[.bool b, .slice a2 n2 c2, .slice a3 n3 c3]) r.2.2 ∧ -9223372036854775808 ≤ r.2.1 ∧ r.2.1 ≤ 9223372036854775807 ∧
   ∀ w', Below w.heap.size w w' → w'.cell? ⟨B, off + i * 5, none⟩ = some (.slice a1 r.1.length c1) ∧ w'.cell? ⟨B, off + i * 5 + 1, none⟩ = some (.int .i64 r.2.1) ∧ w'.cell? ⟨B, off + i * 5 + 2, none⟩ = some (.bool b) ∧ w'.cell? ⟨B, off + i * 5 + 3, none⟩ = some (.slice a2 n2 c2) ∧ w'.cell? ⟨B, off + i * 5 + 4, none⟩ = some (.slice a3 n3 c3) := by
 obtain ⟨B, off, ha, a1, c1, b, a2, n2, c2, a3, n3, c3, h0, h1, h2, h3, h4, hl, hf, hz1, hz2⟩ := h i _ (List.getElem?_eq_getElem hi)
 exact ⟨rs[i], B, off, a1, c1, b, a2, n2, c2, a3, n3, c3, List.getElem?_eq_getElem hi, ha, hl, hf, hz1, hz2, fun w' hb => ⟨q3q hb h0, q3q hb h1, q3q hb h2, q3q hb h3, q3q hb h4⟩⟩
theorem j2w (h : ∀ x r, x < P.rows.length → P.rows[x]? = some r → b2q P.vars r = true) : P.rows.all (b2q P.vars) = true := by
 rw [List.all_eq_true]
 intro r hr
 obtain ⟨i, hi, rfl⟩ := List.mem_iff_getElem.1 hr
 exact h i _ hi (List.getElem?_eq_getElem hi)
theorem v6k {x : Nat} {r : List Rat × Int × Rat} (hx : P.rows[x]? = some r) (h : b2q P.vars r = false) : j7q P = false := by
 unfold j7q
 cases ha : P.rows.all (b2q P.vars) with
 | false => simp
 | true =>
  rw [List.all_eq_true] at ha
  rw [ha r (List.mem_of_getElem? hx)] at h
  cases h
def Fit (P : Pm) : Prop := P.vars ≤ 160 ∧ P.rows.length ≤ 400 ∧ P.free.length ≤ 1000 ∧ P.goal.length ≤ 1000
theorem b9q : ∀ v ∈ (#[Value.int .i64 z, Value.slice fa fn fc, Value.slice ga gn gc, Value.slice ra rn rc] : Array Value).toList, v.oneCell' = true := by
 intro v hv; simp at hv; rcases hv with rfl | rfl | rfl | rfl <;> rfl

theorem n7q (h : y9q N w v P) (hf : Fit P) :
  Calls Tryz.prog 17 #[v] w fun e w' => e = .returned (.int .i64 (x7q P)) ∧ Below w.heap.size w w' := by
 obtain ⟨fa, fc, ga, gc, ra, rc, rfl, hz1, hz2, -, -, hR⟩ := h
 have HR := hdd hR
 obtain ⟨z, hz⟩ := qx (P.vars)
 obtain ⟨fn, hfn⟩ := qx (P.free.length)
 obtain ⟨gn, hgn⟩ := qx (P.goal.length)
 obtain ⟨rn, hrn⟩ := qx (P.rows.length)
 obtain ⟨h160, h400, hf1, hg1⟩ := hf
 rw [← hz] at h160 hz1 hz2 ⊢
 rw [← hfn] at hf1 ⊢
 rw [← hgn] at hg1 ⊢
 rw [← hrn] at h400 ⊢
 have HZ := hdd hz
 have HRN := hdd hrn
 have HHEAD : Hi (t6q P = decide (1 ≤ z ∧ (fn : Int) = z ∧ (gn : Int) = z)) := hdd (by unfold t6q; rw [hz, hfn, hgn])
 obtain ⟨w1, hw1⟩ := qx (w.alloc (Obj.cells #[.int .i64 z, .slice fa fn fc, .slice ga gn gc, .slice ra rn rc] 26))
 have HB1 : Hi (Below w.heap.size w w1) := hdd (by rw [hw1]; exact (qb).alloc qm _)
 have HX : Hi (v9j w1 w.heap.size z fa fn fc ga gn gc ra rn rc) := hdd (by rw [hw1]; exact heap_alloc_new w _)
 have HW1 := hdd hw1.symm
 clear hw1 hR hz hfn hgn hrn
 have RX := hdd (q1q HX.o)
 have hb1 := Below.refl w1.heap.size w1
 obtain ⟨x0, x1, x2, x3⟩ := qz RX.o hb1
 have t1 : decide ((160 : Int) < z) = false := by simp; omega
 have t2 : decide ((400 : Int) < (rn : Int)) = false := by simp; omega
 by_cases h3 : z < 1
 ·
  have t3 : decide (z < 1) = true := by simpa using h3
  have HE : Hi (x7q P = 20) := hdd (by
   have e9 : t6q P = false := by rw [HHEAD.o]; simp; omega
   unfold x7q j7q; rw [e9]; rfl)
  clear h3
  go_enter Tryz.func17, Tryz.ntmps17
  go_wp2_with fail
  rw [HW1.o]
  go_ret
  exact ⟨by rw [HE.o]; first | done | rfl, HB1.o⟩
 have t3 : decide (z < 1) = false := by simpa using h3
 by_cases h4 : ¬ (fn : Int) = z
 ·
  have t4 : ((fn : Int) != z) = true := by simpa using h4
  have HE : Hi (x7q P = 20) := hdd (by
   have e9 : t6q P = false := by rw [HHEAD.o]; simp; omega
   unfold x7q j7q; rw [e9]; rfl)
  clear h3 h4
  go_enter Tryz.func17, Tryz.ntmps17
  go_wp2_with fail
  rw [HW1.o]
  go_ret
  exact ⟨by rw [HE.o]; first | done | rfl, HB1.o⟩
 have t4 : ((fn : Int) != z) = false := by simpa using h4
 by_cases h5 : ¬ (gn : Int) = z
 ·
  have t5 : ((gn : Int) != z) = true := by simpa using h5
  have HE : Hi (x7q P = 20) := hdd (by
   have e9 : t6q P = false := by rw [HHEAD.o]; simp; omega
   unfold x7q j7q; rw [e9]; rfl)
  clear h3 h4 h5
  go_enter Tryz.func17, Tryz.ntmps17
  go_wp2_with fail
  rw [HW1.o]
  go_ret
  exact ⟨by rw [HE.o]; first | done | rfl, HB1.o⟩
 have t5 : ((gn : Int) != z) = false := by simpa using h5
 have HH : Hi (t6q P = true) := hdd (by rw [HHEAD.o]; simp; omega)
 have HZN : Hi (1 ≤ z ∧ (fn : Int) = z ∧ (gn : Int) = z) := hdd ⟨by omega, by omega, by omega⟩
 clear h3 h4 h5
 go_enter Tryz.func17, Tryz.ntmps17
 go_wp2_with fail
 rw [HW1.o]
 go_loopw [36] (fun iv wr => ∃ i : Nat, i ≤ rn ∧ iv = .int .i64 i ∧ Hi (∀ x r, x < i → P.rows[x]? = some r → b2q z r = true) ∧ Hi (Below w1.heap.size w1 wr)) (fun iv _ => rn - (intOf iv).toNat)
 case atStart => exact ⟨0, Nat.zero_le _, rfl, hdd (fun x r h => absurd h (Nat.not_lt_zero x)), hdd hb1⟩
 case round =>
  obtain ⟨i, hi, rfl, hd, hB⟩ := hrel
  obtain ⟨wo, rfl⟩ : ∃ wo : World, wo = wr := ⟨_, rfl⟩
  by_cases hin : i < rn
  ·
   have t6 : decide ((i : Int) < (rn : Int)) = true := by simp; omega
   obtain ⟨r, B, off, a1, c1, b, a2, n2, c2, a3, n3, c3, hr, ha, -, -, hz3, hz4, hc⟩ := HR.o.at (i := i) (by have := HRN.o; omega)
   subst ha
   obtain ⟨f0, f1, f2, f3, f4⟩ := hc wo (q0q HB1.o hB.o)
   have HRI := hdd hr
   obtain ⟨n1, hn1⟩ := qx (r.1.length)
   obtain ⟨sn, hsn⟩ := qx (r.2.1)
   rw [← hn1] at f0
   rw [← hsn] at f1 hz3 hz4
   have HOK : Hi (b2q z r = decide ((n1 : Int) = z ∧ -1 ≤ sn ∧ sn ≤ 1)) := hdd (by unfold b2q; rw [hn1, hsn])
   clear hc hr hn1 hsn
   go_wp2_with ((with_reducible refine j9q ?_); refine q6q rfl _ _ _ rfl wo.heap.size rfl _ rfl _ _ (heap_alloc_new _ _) w0q rfl f0q ?_; intro w4 h4 hon4; refine y0q ?_)
   have hb4 : Below wo.heap.size wo w4 := q4q ((qb).alloc qm _) hon4 qm
   have HB4 := hdd (q0q hB.o hb4)
   have RY := hdd (q1q h4)
   have hb5 := Below.refl w4.heap.size w4
   have y0 := RY.o 0 _ rfl _ hb5
   have y1 := RY.o 1 _ rfl _ hb5
   have y2 := RY.o 2 _ rfl _ hb5
   have y3 := RY.o 3 _ rfl _ hb5
   have y4 := RY.o 4 _ rfl _ hb5
   obtain ⟨x0, x1, x2, x3⟩ := qz RX.o HB4.o
   clear h4 hon4 hb4 f0 f1 f2 f3 f4
   refine z2q ?_
   have HBAD : Hi (b2q z r = false → x7q P = 20) := hdd (fun h9 => by
    have e9 : j7q P = false := v6k HRI.o (by rw [← HZ.o]; exact h9)
    unfold x7q; rw [e9]; rfl)
   by_cases h6 : (n1 : Int) = z
   ·
    have u6 : ((n1 : Int) != z) = false := by simpa using h6
    rcases (show sn = -1 ∨ sn = 0 ∨ sn = 1 ∨ (¬ sn = -1 ∧ ¬ sn = 0 ∧ ¬ sn = 1) by omega) with h7 | h7 | h7 | ⟨h7, h8, h9⟩
    ·
     have u7 : (sn != -1) = false := by simp [h7]
     have HD : Hi (∀ x r', x < i + 1 → P.rows[x]? = some r' → b2q z r' = true) := hdd (fun x r' hx hr => by
      by_cases e : x = i
      ·
       subst e
       rw [HRI.o] at hr
       cases hr
       rw [HOK.o]; simp; omega
      ·
       exact hd.o x r' (by omega) hr)
     clear h6 h7
     go_wp2_with fail
     go_roundw
     case rel => exact ⟨i + 1, by omega, by go_num, HD, HB4⟩
     case measure => simp [intOf]; omega
    ·
     have u7 : (sn != -1) = true := by simp [h7]
     have u8 : (sn != 0) = false := by simp [h7]
     have HD : Hi (∀ x r', x < i + 1 → P.rows[x]? = some r' → b2q z r' = true) := hdd (fun x r' hx hr => by
      by_cases e : x = i
      ·
       subst e
       rw [HRI.o] at hr
       cases hr
       rw [HOK.o]; simp; omega
      ·
       exact hd.o x r' (by omega) hr)
     clear h6 h7
     go_wp2_with fail
     go_roundw
     case rel => exact ⟨i + 1, by omega, by go_num, HD, HB4⟩
     case measure => simp [intOf]; omega
    ·
     have u7 : (sn != -1) = true := by simp [h7]
     have u8 : (sn != 0) = true := by simp [h7]
     have u9 : (sn != 1) = false := by simp [h7]
     have HD : Hi (∀ x r', x < i + 1 → P.rows[x]? = some r' → b2q z r' = true) := hdd (fun x r' hx hr => by
      by_cases e : x = i
      ·
       subst e
       rw [HRI.o] at hr
       cases hr
       rw [HOK.o]; simp; omega
      ·
       exact hd.o x r' (by omega) hr)
     clear h6 h7
     go_wp2_with fail
     go_roundw
     case rel => exact ⟨i + 1, by omega, by go_num, HD, HB4⟩
     case measure => simp [intOf]; omega
    ·
     have u7 : (sn != -1) = true := by simpa using h7
     have u8 : (sn != 0) = true := by simpa using h8
     have u9 : (sn != 1) = true := by simpa using h9
     have HE := hdd (HBAD.o (by rw [HOK.o]; simp; omega))
     clear h6 h7 h8 h9
     go_wp2_with fail
     go_ret
     exact ⟨by rw [HE.o]; first | done | rfl, q0q HB1.o HB4.o⟩
   ·
    have u6 : ((n1 : Int) != z) = true := by simpa using h6
    have HE := hdd (HBAD.o (by rw [HOK.o]; simp; omega))
    clear h6
    go_wp2_with fail
    go_ret
    exact ⟨by rw [HE.o]; first | done | rfl, q0q HB1.o HB4.o⟩
  ·
   have t6 : decide ((i : Int) < (rn : Int)) = false := by simp; omega
   have HE : Hi (x7q P = 0) := hdd (by
    have e9 : P.rows.all (b2q P.vars) = true := j2w (fun x r hx hr => by rw [← HZ.o]; exact hd.o x r (by have := HRN.o; omega) hr)
    unfold x7q j7q; rw [HH.o, e9]; rfl)
   go_wp2_with fail
   go_ret
   exact ⟨by rw [HE.o]; first | done | rfl, q0q HB1.o hB.o⟩

theorem f7q (h : y9q N w v P) (hf : Fit P) :
  Calls Tryz.prog 23 #[v] w fun e w' => e = .returned (.int .i64 (x7q P)) ∧ Below w.heap.size w w' := by
 obtain ⟨fa, fc, ga, gc, ra, rc, rfl, hz1, hz2, -, -, hR⟩ := h
 have HR := hdd hR
 obtain ⟨z, hz⟩ := qx (P.vars)
 obtain ⟨fn, hfn⟩ := qx (P.free.length)
 obtain ⟨gn, hgn⟩ := qx (P.goal.length)
 obtain ⟨rn, hrn⟩ := qx (P.rows.length)
 obtain ⟨h160, h400, hf1, hg1⟩ := hf
 rw [← hz] at h160 hz1 hz2 ⊢
 rw [← hfn] at hf1 ⊢
 rw [← hgn] at hg1 ⊢
 rw [← hrn] at h400 ⊢
 have HZ := hdd hz
 have HRN := hdd hrn
 have HHEAD : Hi (t6q P = decide (1 ≤ z ∧ (fn : Int) = z ∧ (gn : Int) = z)) := hdd (by unfold t6q; rw [hz, hfn, hgn])
 obtain ⟨w1, hw1⟩ := qx (w.alloc (Obj.cells #[.int .i64 z, .slice fa fn fc, .slice ga gn gc, .slice ra rn rc] 26))
 have HB1 : Hi (Below w.heap.size w w1) := hdd (by rw [hw1]; exact (qb).alloc qm _)
 have HX : Hi (v9j w1 w.heap.size z fa fn fc ga gn gc ra rn rc) := hdd (by rw [hw1]; exact heap_alloc_new w _)
 have HW1 := hdd hw1.symm
 clear hw1 hR hz hfn hgn hrn
 have RX := hdd (q1q HX.o)
 have hb1 := Below.refl w1.heap.size w1
 obtain ⟨x0, x1, x2, x3⟩ := qz RX.o hb1
 have t1 : decide ((160 : Int) < z) = false := by simp; omega
 have t2 : decide ((400 : Int) < (rn : Int)) = false := by simp; omega
 by_cases h3 : z < 1
 ·
  have t3 : decide (z < 1) = true := by simpa using h3
  have HE : Hi (x7q P = 20) := hdd (by
   have e9 : t6q P = false := by rw [HHEAD.o]; simp; omega
   unfold x7q j7q; rw [e9]; rfl)
  clear h3
  go_enter Tryz.func23, Tryz.ntmps23
  go_wp2_with fail
  rw [HW1.o]
  go_ret
  exact ⟨by rw [HE.o]; first | done | rfl, HB1.o⟩
 have t3 : decide (z < 1) = false := by simpa using h3
 by_cases h4 : ¬ (fn : Int) = z
 ·
  have t4 : ((fn : Int) != z) = true := by simpa using h4
  have HE : Hi (x7q P = 20) := hdd (by
   have e9 : t6q P = false := by rw [HHEAD.o]; simp; omega
   unfold x7q j7q; rw [e9]; rfl)
  clear h3 h4
  go_enter Tryz.func23, Tryz.ntmps23
  go_wp2_with fail
  rw [HW1.o]
  go_ret
  exact ⟨by rw [HE.o]; first | done | rfl, HB1.o⟩
 have t4 : ((fn : Int) != z) = false := by simpa using h4
 by_cases h5 : ¬ (gn : Int) = z
 ·
  have t5 : ((gn : Int) != z) = true := by simpa using h5
  have HE : Hi (x7q P = 20) := hdd (by
   have e9 : t6q P = false := by rw [HHEAD.o]; simp; omega
   unfold x7q j7q; rw [e9]; rfl)
  clear h3 h4 h5
  go_enter Tryz.func23, Tryz.ntmps23
  go_wp2_with fail
  rw [HW1.o]
  go_ret
  exact ⟨by rw [HE.o]; first | done | rfl, HB1.o⟩
 have t5 : ((gn : Int) != z) = false := by simpa using h5
 have HH : Hi (t6q P = true) := hdd (by rw [HHEAD.o]; simp; omega)
 have HZN : Hi (1 ≤ z ∧ (fn : Int) = z ∧ (gn : Int) = z) := hdd ⟨by omega, by omega, by omega⟩
 clear h3 h4 h5
 go_enter Tryz.func23, Tryz.ntmps23
 go_wp2_with fail
 rw [HW1.o]
 go_loopw [36] (fun iv wr => ∃ i : Nat, i ≤ rn ∧ iv = .int .i64 i ∧ Hi (∀ x r, x < i → P.rows[x]? = some r → b2q z r = true) ∧ Hi (Below w1.heap.size w1 wr)) (fun iv _ => rn - (intOf iv).toNat)
 case atStart => exact ⟨0, Nat.zero_le _, rfl, hdd (fun x r h => absurd h (Nat.not_lt_zero x)), hdd hb1⟩
 case round =>
  obtain ⟨i, hi, rfl, hd, hB⟩ := hrel
  obtain ⟨wo, rfl⟩ : ∃ wo : World, wo = wr := ⟨_, rfl⟩
  by_cases hin : i < rn
  ·
   have t6 : decide ((i : Int) < (rn : Int)) = true := by simp; omega
   obtain ⟨r, B, off, a1, c1, b, a2, n2, c2, a3, n3, c3, hr, ha, -, -, hz3, hz4, hc⟩ := HR.o.at (i := i) (by have := HRN.o; omega)
   subst ha
   obtain ⟨f0, f1, f2, f3, f4⟩ := hc wo (q0q HB1.o hB.o)
   have HRI := hdd hr
   obtain ⟨n1, hn1⟩ := qx (r.1.length)
   obtain ⟨sn, hsn⟩ := qx (r.2.1)
   rw [← hn1] at f0
   rw [← hsn] at f1 hz3 hz4
   have HOK : Hi (b2q z r = decide ((n1 : Int) = z ∧ -1 ≤ sn ∧ sn ≤ 1)) := hdd (by unfold b2q; rw [hn1, hsn])
   clear hc hr hn1 hsn
   go_wp2_with ((with_reducible refine j9q ?_); refine q6q rfl _ _ _ rfl wo.heap.size rfl _ rfl _ _ (heap_alloc_new _ _) w0q rfl f0q ?_; intro w4 h4 hon4; refine y0q ?_)
   have hb4 : Below wo.heap.size wo w4 := q4q ((qb).alloc qm _) hon4 qm
   have HB4 := hdd (q0q hB.o hb4)
   have RY := hdd (q1q h4)
   have hb5 := Below.refl w4.heap.size w4
   have y0 := RY.o 0 _ rfl _ hb5
   have y1 := RY.o 1 _ rfl _ hb5
   have y2 := RY.o 2 _ rfl _ hb5
   have y3 := RY.o 3 _ rfl _ hb5
   have y4 := RY.o 4 _ rfl _ hb5
   obtain ⟨x0, x1, x2, x3⟩ := qz RX.o HB4.o
   clear h4 hon4 hb4 f0 f1 f2 f3 f4
   refine z2q ?_
   have HBAD : Hi (b2q z r = false → x7q P = 20) := hdd (fun h9 => by
    have e9 : j7q P = false := v6k HRI.o (by rw [← HZ.o]; exact h9)
    unfold x7q; rw [e9]; rfl)
   by_cases h6 : (n1 : Int) = z
   ·
    have u6 : ((n1 : Int) != z) = false := by simpa using h6
    rcases (show sn < -1 ∨ (¬ sn < -1 ∧ 1 < sn) ∨ (¬ sn < -1 ∧ ¬ 1 < sn) by omega) with h7 | ⟨h7, h8⟩ | ⟨h7, h8⟩
    ·
     have u7 : decide (sn < -1) = true := by simpa using h7
     have HE := hdd (HBAD.o (by rw [HOK.o]; simp; omega))
     clear h6 h7
     go_wp2_with fail
     go_ret
     exact ⟨by rw [HE.o]; first | done | rfl, q0q HB1.o HB4.o⟩
    ·
     have u7 : decide (sn < -1) = false := by simpa using h7
     have u8 : decide (1 < sn) = true := by simpa using h8
     have HE := hdd (HBAD.o (by rw [HOK.o]; simp; omega))
     clear h6 h7 h8
     go_wp2_with fail
     go_ret
     exact ⟨by rw [HE.o]; first | done | rfl, q0q HB1.o HB4.o⟩
    ·
     have u7 : decide (sn < -1) = false := by simpa using h7
     have u8 : decide (1 < sn) = false := by simpa using h8
     have HD : Hi (∀ x r', x < i + 1 → P.rows[x]? = some r' → b2q z r' = true) := hdd (fun x r' hx hr => by
      by_cases e : x = i
      ·
       subst e
       rw [HRI.o] at hr
       cases hr
       rw [HOK.o]; simp; omega
      ·
       exact hd.o x r' (by omega) hr)
     clear h6 h7 h8
     go_wp2_with fail
     go_roundw
     case rel => exact ⟨i + 1, by omega, by go_num, HD, HB4⟩
     case measure => simp [intOf]; omega
   ·
    have u6 : ((n1 : Int) != z) = true := by simpa using h6
    have HE := hdd (HBAD.o (by rw [HOK.o]; simp; omega))
    clear h6
    go_wp2_with fail
    go_ret
    exact ⟨by rw [HE.o]; first | done | rfl, q0q HB1.o HB4.o⟩
  ·
   have t6 : decide ((i : Int) < (rn : Int)) = false := by simp; omega
   have HE : Hi (x7q P = 0) := hdd (by
    have e9 : P.rows.all (b2q P.vars) = true := j2w (fun x r hx hr => by rw [← HZ.o]; exact hd.o x r (by have := HRN.o; omega) hr)
    unfold x7q j7q; rw [HH.o, e9]; rfl)
   go_wp2_with fail
   go_ret
   exact ⟨by rw [HE.o]; first | done | rfl, q0q HB1.o hB.o⟩
end Go.Proofs.YtkkbmlkpgknhgaaGreat
