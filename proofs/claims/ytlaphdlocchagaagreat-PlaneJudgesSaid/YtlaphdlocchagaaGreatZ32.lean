/- Several texts in one: Pt, Fr, K2, K3. -/
import Derived.Test.YtlaphdlocchagaaGreatZ8
import Derived.Test.YtlaphdlocchagaaGreatZ24
import Derived.Test.YtlaphdlocchagaaGreatZ27
import Derived.Test.YtlaphdlocchagaaGreatZ31
import Derived.Deep.RegionHeld3
import Derived.Deep.DrawnRows
/- Rows of values of three cells each: made, stored into. -/
namespace Go.Proofs.YtlaphdlocchagaaGreat
open Go.RowKit

/-- A block of n values of three cells each. -/
def Row3 (w : World) (B : Nat) (e : TypeId) (n : Nat) (f : Nat → Value × Value × Value) : Prop :=
  ∃ c : Array Value, w.heap[B]? = some (.cells c e (0, 0)) ∧ c.size = n * 3 ∧ ∀ i, i < n → c[i * 3]? = some (f i).1 ∧ c[i * 3 + 1]? = some (f i).2.1 ∧ c[i * 3 + 2]? = some (f i).2.2
theorem Row3.below {w w' : World} {B n N : Nat} {e : TypeId} {f : Nat → Value × Value × Value} (h : Row3 w B e n f) (hB : B < N) (hb : Below N w w') : Row3 w' B e n f := by
  obtain ⟨c, h1, h2, h3⟩ := h
  exact ⟨c, (hb.block B hB).trans h1, h2, h3⟩
theorem Row3.only {w w' : World} {B D n : Nat} {e : TypeId} {f : Nat → Value × Value × Value} (h : Row3 w B e n f) (hne : B ≠ D) (hb : Only D w w') : Row3 w' B e n f := by
  obtain ⟨c, h1, h2, h3⟩ := h
  exact ⟨c, (hb.block B hne).trans h1, h2, h3⟩
theorem Row3.lt {w : World} {B n : Nat} {e : TypeId} {f : Nat → Value × Value × Value} (h : Row3 w B e n f) : B < w.heap.size := by
  obtain ⟨c, h1, -, -⟩ := h
  exact (Array.getElem?_eq_some_iff.1 h1).1
theorem Row3.cell {w : World} {B n : Nat} {e : TypeId} {f : Nat → Value × Value × Value} (h : Row3 w B e n f) {i : Nat} (hi : i < n) :
    w.cell? ⟨B, i * 3, none⟩ = some (f i).1 ∧ w.cell? ⟨B, i * 3 + 1, none⟩ = some (f i).2.1 ∧ w.cell? ⟨B, i * 3 + 2, none⟩ = some (f i).2.2 := by
  obtain ⟨c, h1, -, h3⟩ := h
  obtain ⟨k0, k1, k2⟩ := h3 i hi
  exact ⟨by rw [cell_of_row _ _ _ _ _ _ h1]; exact k0, by rw [cell_of_row _ _ _ _ _ _ h1]; exact k1, by rw [cell_of_row _ _ _ _ _ _ h1]; exact k2⟩

theorem made3 (z0 z1 z2 : Value) (m k : Nat) (hk : k < m) : (madeCells #[z0, z1, z2] m)[k]? = some (if k % 3 = 0 then z0 else if k % 3 = 1 then z1 else z2) := by
  unfold madeCells
  rw [Array.getElem?_map, Array.getElem?_range, if_pos hk]
  simp only [Option.map_some, Option.some.injEq]
  have h3 : k % 3 < 3 := Nat.mod_lt _ (by omega)
  have hs : (#[z0, z1, z2] : Array Value).size = 3 := rfl
  rw [hs]
  rcases (by omega : k % 3 = 0 ∨ k % 3 = 1 ∨ k % 3 = 2) with e | e | e <;> rw [e] <;> simp

theorem wpList_make_three {P : Program} {w : World} {ops : Array Oper} {rest : List Oper} {o : Oper} {a : Act} {Q : Exit → Act → World → Prop}
    (hg : o.guard = none) (l c : Operand) (t e : TypeId) (hop : o.op = Op.makeSlice t l c) (h1 : P.underlying t = some (.slice e)) (z0 z1 z2 : Value) (by_ : Nat)
    (h2 : (P.info? e).map (fun i => (i.zero, i.size, i.bytes)) = some (some (.agg #[z0, z1, z2]), 3, by_)) (n : Nat) (hl : a.eval l = .int .i64 n) (hc : a.eval c = .int .i64 n) (hn : n ≤ 1073741824) (hby : by_ ≤ 4096)
    (hK : ∀ w', Row3 w' w.heap.size e n (fun _ => (z0, z1, z2)) → Below w.heap.size w w' → Hid (w'.heap.size = w.heap.size + 1) → wpList P ops Q rest (a.put o.dst (.slice (some ⟨w.heap.size, 0, none⟩) n n)) w') :
    wpList P ops Q (o :: rest) a w := by
  obtain ⟨i, hi, hz, hs, hb⟩ := info_parts h2
  refine wpList_plain hg fun K hK' => ?_
  have hbn : i.bytes * n ≤ 4096 * 1073741824 := Nat.mul_le_mul (by omega) hn
  have hr := run_make (P := P) w t e i _ h1 hi hz .i64 .i64 n n (by omega) (Int.le_refl _) (by have : ((i.bytes * n : Nat) : Int) ≤ 4398046511104 := by omega
                                                                                               rw [Int.natCast_mul] at this; omega) (by omega)
  simp only [Int.toNat_natCast, hs, Value.cells] at hr
  unfold Oper.wp
  simp [execOp, hop, hl, hc, hr, Result.andThen]
  refine hK' _ _ (hK _ ?_ ((Below.refl _ _).alloc (Nat.le_refl _) _) (Lib.hid (by simp)))
  refine ⟨_, heap_alloc_new w _, size_madeCells _ _, fun i hi => ⟨?_, ?_, ?_⟩⟩
  · rw [made3 _ _ _ _ _ (by omega), if_pos (by omega)]
  · rw [made3 _ _ _ _ _ (by omega), if_neg (by omega), if_pos (by omega)]
  · rw [made3 _ _ _ _ _ (by omega), if_neg (by omega), if_neg (by omega)]

theorem run_storeVar_at {P : Program} (w : World) (g off : Nat) (t ty : TypeId) (cur vs : Array Value) (hg : w.heap[g]? = some (.cells cur t (0, 0))) (hi : (P.info? ty).map (·.size) = some vs.size) (hs : off + vs.size ≤ cur.size) (h1 : ∀ v ∈ vs.toList, v.oneCell' = true) :
    (storeVar ty ⟨g, off, none⟩ (.agg vs)).run P w = .ok () (w.setRow g (cur.toList.take off ++ vs.toList ++ cur.toList.drop (off + vs.size)).toArray) := by
  have h := run_storeCells_at (P := P) g off t vs.toList 0 cur w hg (by simpa using hs) h1
  rw [Nat.add_zero] at h
  cases hq : P.info? ty with
  | none => simp [hq] at hi
  | some i =>
    have hsz : i.size = vs.size := by simpa [hq] using hi
    simp [storeVar, Sem.run_bind, sizeOf, typeInfo, hq, hsz, Value.cells, h]

/-- A value of three cells, stored into a row. -/
theorem wpList_store_three {P : Program} {ops : Array Oper} {rest : List Oper} {o : Oper} {a : Act} {w : World} {Q : Exit → Act → World → Prop} (hgd : o.guard = none) (ty : TypeId) (x y : Operand) (ho : o.op = .store ty x y)
    (g n k : Nat) (hx : a.eval x = .pointer (some ⟨g, k * 3, none⟩)) (v0 v1 v2 : Value) (hy : a.eval y = .agg #[v0, v1, v2]) (t : TypeId) (f : Nat → Value × Value × Value) (hg : Row3 w g t n f) (hk : k < n)
    (hi : (P.info? ty).map (·.size) = some 3) (h1 : ∀ v ∈ (#[v0, v1, v2] : Array Value).toList, v.oneCell' = true)
    (h : ∀ w', Row3 w' g t n (fun j => if j = k then (v0, v1, v2) else f j) → Only g w w' → wpList P ops Q rest (a.put o.dst undef) w') : wpList P ops Q (o :: rest) a w := by
  obtain ⟨cur, hc, hn, hf⟩ := hg
  refine wpList_plain hgd fun K hK => ?_
  unfold Oper.wp execOp
  have hr := run_storeVar_at (P := P) w g (k * 3) t ty cur #[v0, v1, v2] hc hi (by simp; omega) h1
  simp only [ho, hx, hy, Instr.storeAt, Instr.sureAddr, Sem.run_bind, Sem.run_pure, Result.andThen_ok, hr]
  refine hK _ _ (h _ ⟨_, setRow_heap w g cur _ t _ hc, ?_, fun i hi => ?_⟩ ⟨rfl, rfl, rfl, by simp [World.setRow], fun k hk => setRow_other w g k _ hk⟩)
  · simp; omega
  · have ht : (cur.toList.take (k * 3)).length = k * 3 := by simp; omega
    have hget : ∀ m, (cur.toList.take (k * 3) ++ (#[v0, v1, v2] : Array Value).toList ++ cur.toList.drop (k * 3 + 3)).toArray[m]? = if m < k * 3 then cur[m]? else if m < k * 3 + 3 then [v0, v1, v2][m - k * 3]? else cur[m]? := by
      intro m
      rw [List.getElem?_toArray, List.append_assoc]
      by_cases h1 : m < k * 3
      · rw [if_pos h1, List.getElem?_append_left (by omega), List.getElem?_take_of_lt h1]; simp
      · rw [if_neg h1, List.getElem?_append_right (by omega), ht]
        by_cases h2 : m < k * 3 + 3
        · rw [if_pos h2, List.getElem?_append_left (by simp; omega)]
        · rw [if_neg h2, List.getElem?_append_right (by simp; omega), List.getElem?_drop]
          rw [show k * 3 + 3 + (m - k * 3 - (#[v0, v1, v2] : Array Value).toList.length) = m by simp; omega]
          simp
    obtain ⟨e0, e1, e2⟩ := hf i hi
    have hsz : (#[v0, v1, v2] : Array Value).size = 3 := rfl
    rw [hsz, hget, hget, hget]
    by_cases hik : i = k
    · subst hik
      simp only [↓reduceIte]
      rw [if_neg (by omega), if_pos (by omega), if_neg (by omega), if_pos (by omega), if_neg (by omega), if_pos (by omega)]
      rw [Nat.sub_self, show i * 3 + 1 - i * 3 = 1 by omega, show i * 3 + 2 - i * 3 = 2 by omega]
      exact ⟨rfl, rfl, rfl⟩
    · simp only [if_neg hik]
      by_cases hlt : i < k
      · rw [if_pos (by omega), if_pos (by omega), if_pos (by omega)]
        exact ⟨e0, e1, e2⟩
      · rw [if_neg (by omega), if_neg (by omega), if_neg (by omega), if_neg (by omega), if_neg (by omega), if_neg (by omega)]
        exact ⟨e0, e1, e2⟩
end Go.Proofs.YtlaphdlocchagaaGreat

/- Blocks of fractions, made and stored into; read as lists. -/
namespace Go.Proofs.YtlaphdlocchagaaGreat
open Go.RowKit

/-- A block of n fractions, of which those up to j stand for numbers. -/
def FracsTo (w : World) (B n j : Nat) (g : Nat → Rat) : Prop :=
  ∃ f, Row3 w B 47 n f ∧ ∀ i, i < n → ∃ a1 n1 c1 b a2 n2 c2, f i = (.bool b, .slice a1 n1 c1, .slice a2 n2 c2) ∧ (i < j → FracV w (.agg #[.bool b, .slice a1 n1 c1, .slice a2 n2 c2]) (g i))
theorem FracsTo.below {w w' : World} {B n j : Nat} {g : Nat → Rat} (h : FracsTo w B n j g) (hb : Below w.heap.size w w') : FracsTo w' B n j g := by
  obtain ⟨f, hr, he⟩ := h
  refine ⟨f, hr.below hr.lt hb, fun i hi => ?_⟩
  obtain ⟨a1, n1, c1, b, a2, n2, c2, e, hq⟩ := he i hi
  exact ⟨a1, n1, c1, b, a2, n2, c2, e, fun hj => (hq hj).below hb⟩
theorem FracsTo.lt {w : World} {B n j : Nat} {g : Nat → Rat} (h : FracsTo w B n j g) : B < w.heap.size := by
  obtain ⟨f, hr, -⟩ := h
  exact hr.lt
/-- No cell of such a block is a word. -/
theorem fracs_cells {B n : Nat} {w : World} {f : Nat → Value × Value × Value} (hr : Row3 w B 47 n f) (hf : ∀ i, i < n → ∃ a1 n1 c1 b a2 n2 c2, f i = (.bool b, .slice a1 n1 c1, .slice a2 n2 c2)) :
    ∃ c, w.heap[B]? = some (.cells c 47 (0, 0)) ∧ ∀ (j k : Nat), c[j]? ≠ some (U k) := by
  obtain ⟨c, h1, h2, h3⟩ := hr
  refine ⟨c, h1, fun j k hk => ?_⟩
  have hj : j < c.size := (Array.getElem?_eq_some_iff.1 hk).1
  have hi : j / 3 < n := by omega
  obtain ⟨a1, n1, c1, b, a2, n2, c2, e⟩ := hf (j / 3) hi
  obtain ⟨k0, k1, k2⟩ := h3 (j / 3) hi
  rw [e] at k0 k1 k2
  rcases (by omega : j = j / 3 * 3 ∨ j = j / 3 * 3 + 1 ∨ j = j / 3 * 3 + 2) with h | h | h
  · rw [h, k0] at hk; simp [U] at hk
  · rw [h, k1] at hk; simp [U] at hk
  · rw [h, k2] at hk; simp [U] at hk
theorem FracsTo.store {w w' : World} {B n j : Nat} {g : Nat → Rat} {a1 a2 : Option Addr} {n1 c1 n2 c2 : Nat} {b : Bool} {f : Nat → Value × Value × Value}
    (hr : Row3 w B 47 n f) (he : ∀ i, i < n → ∃ a1 n1 c1 b a2 n2 c2, f i = (.bool b, .slice a1 n1 c1, .slice a2 n2 c2) ∧ (i < j → FracV w (.agg #[.bool b, .slice a1 n1 c1, .slice a2 n2 c2]) (g i)))
    (hq : FracV w (.agg #[.bool b, .slice a1 n1 c1, .slice a2 n2 c2]) (g j)) (hr' : Row3 w' B 47 n (fun i => if i = j then (.bool b, .slice a1 n1 c1, .slice a2 n2 c2) else f i)) (ho : Only B w w') : FracsTo w' B n (j + 1) g := by
  obtain ⟨c, hc, hU⟩ := fracs_cells hr (fun i hi => by obtain ⟨a1, n1, c1, b, a2, n2, c2, e, -⟩ := he i hi; exact ⟨a1, n1, c1, b, a2, n2, c2, e⟩)
  have keep : ∀ {v : Value} {q : Rat}, FracV w v q → FracV w' v q := by
    intro v q h
    obtain ⟨u, d, rfl, h1, h2⟩ := h
    exact ⟨u, d, rfl, h1.other hc hU ho, h2.other hc hU ho⟩
  refine ⟨_, hr', fun i hi => ?_⟩
  by_cases hij : i = j
  · subst hij
    exact ⟨a1, n1, c1, b, a2, n2, c2, by simp, fun _ => keep hq⟩
  · obtain ⟨a1', n1', c1', b', a2', n2', c2', e, h⟩ := he i hi
    exact ⟨a1', n1', c1', b', a2', n2', c2', by simp only [if_neg hij]; exact e, fun h9 => keep (h (by omega))⟩
theorem info_frac9 : (Tryz.prog.info? 47).map (fun i => (i.zero, i.size, i.bytes)) = some (some (.agg #[Value.bool false, Value.slice none 0 0, Value.slice none 0 0]), 3, 56) := by kernel_rfl

theorem FracsTo.list {N : Nat} {w : World} {B n : Nat} {qs : List Rat} (h : FracsTo w B n n (nthQ qs)) (hn : n = qs.length) (hs : ∀ i, i < n → (digs (nthQ qs i).num.natAbs).length ≤ N ∧ (digs (nthQ qs i).den).length ≤ N ∧ lenQ (nthQ qs i) ≤ 4096) : ListF N w (.slice (some ⟨B, 0, none⟩) n n) qs := by
  obtain ⟨f, hr, he⟩ := h
  refine ⟨_, n, by rw [hn], fun i q hi => ?_⟩
  have hin : i < n := by rw [hn]; exact (List.getElem?_eq_some_iff.1 hi).1
  obtain ⟨a1, n1, c1, b, a2, n2, c2, e, hq⟩ := he i hin
  obtain ⟨k0, k1, k2⟩ := hr.cell hin
  rw [e] at k0 k1 k2
  have e2 : nthQ qs i = q := nthQ_of hi
  obtain ⟨s1, s2, s3⟩ := hs i hin
  have hv := hq hin
  rw [e2] at hv s1 s2 s3
  obtain ⟨u, d, he9, hu, hd⟩ := hv
  refine ⟨B, 0, b, a1, n1, c1, a2, n2, c2, rfl, by rw [Nat.zero_add]; exact k0, by rw [Nat.zero_add]; exact k1, by rw [Nat.zero_add]; exact k2, ?_⟩
  exact ⟨_, _, _, ⟨u, d, he9, hu, hd⟩, (fix_digs s3).symm, s1, s2⟩
end Go.Proofs.YtlaphdlocchagaaGreat

/- Readers of right sides and of columns; lists of zeros; more words than there are. -/
namespace Go.Proofs.YtlaphdlocchagaaGreat
open Go.RowKit
attribute [local go_sem ↓] Go.wp_at_zero Go.wp_at_succ

theorem FewF.up {N M : Nat} {w : World} {v : Value} {q : Rat} (h : FewF N w v q) (hNM : N ≤ M) : FewF M w v q := by
  obtain ⟨b, l, m, h1, h2, h3, h4⟩ := h
  exact ⟨b, l, m, h1, h2, by omega, by omega⟩
theorem ListF.up {N M : Nat} {w : World} {v : Value} {qs : List Rat} (h : ListF N w v qs) (hNM : N ≤ M) : ListF M w v qs := by
  obtain ⟨a, c, rfl, h⟩ := h
  refine ⟨a, c, rfl, fun i q hq => ?_⟩
  obtain ⟨B, off, b, a1, n1, c1, a2, n2, c2, ha, h0, h1, h2, hf⟩ := h i q hq
  exact ⟨B, off, b, a1, n1, c1, a2, n2, c2, ha, h0, h1, h2, hf.up hNM⟩
theorem RowF.up {N M : Nat} {w : World} {B o : Nat} {r : List Rat × Int × Rat} (h : RowF N w B o r) (hNM : N ≤ M) : RowF M w B o r := by
  obtain ⟨a1, c1, b, a2, n2, c2, a3, n3, c3, h0, h1, h2, h3, h4, hl, hf, hz⟩ := h
  exact ⟨a1, c1, b, a2, n2, c2, a3, n3, c3, h0, h1, h2, h3, h4, hl.up hNM, hf.up hNM, hz⟩
theorem ProgF.up {N M : Nat} {w : World} {v : Value} {P : Pm} (h : ProgF N w v P) (hNM : N ≤ M) : ProgF M w v P := by
  obtain ⟨fa, fc, ga, gc, ra, rc, hv, h1, h2, hf, hg, hr⟩ := h
  refine ⟨fa, fc, ga, gc, ra, rc, hv, h1, h2, hf, hg.up hNM, fun i r hi => ?_⟩
  obtain ⟨B, off, ha, hr⟩ := hr i r hi
  exact ⟨B, off, ha, hr.up hNM⟩

/-- The right side of a row; a row's number in a column. -/
def bQ (P : Pm) (i : Nat) : Rat := ((P.rows[i]?).map (·.2.2)).getD 0
def aQ (P : Pm) (v i : Nat) : Rat := ((P.rows[i]?).map (fun r => nthQ r.1 v)).getD 0
theorem bQ_of {P : Pm} {i : Nat} {r : List Rat × Int × Rat} (h : P.rows[i]? = some r) : bQ P i = r.2.2 := by unfold bQ; rw [h]; rfl
theorem aQ_of {P : Pm} {v i : Nat} {r : List Rat × Int × Rat} (h : P.rows[i]? = some r) : aQ P v i = nthQ r.1 v := by unfold aQ; rw [h]; rfl

set_option maxRecDepth 8000 in
theorem sides_w {w : World} {z : Int} {fa ga ra : Option Addr} {fn fc gn gc rn rc : Nat} :
    Calls Tryz.prog 26 #[.agg #[.int .i64 z, .slice fa fn fc, .slice ga gn gc, .slice ra rn rc]] w fun e w' => (∃ g, e = .returned (.func (.func 71) #[] #[.pointer (some ⟨g, 0, none⟩)]) ∧ w'.cell? ⟨g, 3, none⟩ = some (.slice ra rn rc)) ∧ Below w.heap.size w w' := by
  have hmf : ∀ (fn : Fn) (first cap : Array Value) (w : World), (Instr.makeFunc fn first cap).run Tryz.prog w = .ok (.func fn first cap) w := fun _ _ _ _ => rfl
  go_enter Tryz.func26, Tryz.ntmps26
  go_wp2_with fail
  go_ret
  exact ⟨⟨_, rfl, by rw [cell_of_row _ _ _ _ _ _ (heap_alloc_new w _)]; rfl⟩, (Below.refl _ _).alloc (Nat.le_refl _) _⟩
set_option maxRecDepth 8000 in
theorem column_w {w : World} {v : Int} {ra : Option Addr} {rn rc : Nat} :
    Calls Tryz.prog 49 #[.slice ra rn rc, .int .i64 v] w fun e w' => (∃ g g2, e = .returned (.func (.func 90) #[] #[.pointer (some ⟨g, 0, none⟩), .pointer (some ⟨g2, 0, none⟩)]) ∧ w'.cell? ⟨g, 0, none⟩ = some (.slice ra rn rc) ∧ w'.cell? ⟨g2, 0, none⟩ = some (.int .i64 v)) ∧ Below w.heap.size w w' := by
  have hmf : ∀ (fn : Fn) (first cap : Array Value) (w : World), (Instr.makeFunc fn first cap).run Tryz.prog w = .ok (.func fn first cap) w := fun _ _ _ _ => rfl
  go_enter Tryz.func49, Tryz.ntmps49
  go_wp2_with fail
  go_ret
  exact ⟨⟨_, _, rfl, by rw [cell_of_row _ _ _ _ _ _ (heap_alloc2_old w _ _)]; rfl, by rw [cell_of_row _ _ _ _ _ _ (heap_alloc2_new w _ _)]; rfl⟩, ((Below.refl _ _).alloc (Nat.le_refl _) _).alloc (by simp) _⟩

set_option maxRecDepth 8000 in
set_option maxHeartbeats 2000000 in
theorem sides1_w {N : Nat} {w0 w : World} {p : Nat} {ra : Option Addr} {rn rc i : Nat} {P : Pm} (hb : Below w0.heap.size w0 w) (hp : w.cell? ⟨p, 3, none⟩ = some (.slice ra rn rc)) (hR : RowsPF N w0 ra P.rows) (hi : i < rn) (hrn : rn = P.rows.length) :
    Calls Tryz.prog 71 #[.int .i64 (i : Nat), .pointer (some ⟨p, 0, none⟩)] w (ReadPost N w0 w (bQ P i)) := by
  obtain ⟨r, B, off, a1, c1, b, a2, n2, c2, a3, n3, c3, hr, ha, hlr, hfr, hz3, hz4, hc⟩ := hR.at (i := i) (by omega)
  subst ha
  rw [bQ_of hr]
  have HF := Lib.hid hfr
  obtain ⟨x0, x1, x2, x3, x4⟩ := hc w hb
  have hlt1 := cell_lt hp
  have hlt2 := cell_lt x0
  clear hR hc hlr hfr hr hb hz3 hz4 hrn
  go_enter Tryz.func71, Tryz.ntmps71
  go_wp2_with fail
  exact bodyPost_ret (results_cell_row rfl _ _ w.heap.size _ _ _ _ rfl (heap_alloc_new w _) Tryz.underlying47 rfl ifrac) rfl ⟨⟨_, _, _, _, _, _, _, rfl, HF.out⟩, (Below.refl _ _).alloc (Nat.le_refl _) _⟩

set_option maxRecDepth 8000 in
set_option maxHeartbeats 4000000 in
theorem column1_w {N : Nat} {w0 w : World} {p p2 v : Nat} {ra : Option Addr} {rn rc i : Nat} {P : Pm} (hb : Below w0.heap.size w0 w) (hp : w.cell? ⟨p, 0, none⟩ = some (.slice ra rn rc)) (hp2 : w.cell? ⟨p2, 0, none⟩ = some (.int .i64 (v : Nat))) (hR : RowsPF N w0 ra P.rows) (hi : i < rn) (hrn : rn = P.rows.length) (hv : ∀ r, P.rows[i]? = some r → v < r.1.length) :
    Calls Tryz.prog 90 #[.int .i64 (i : Nat), .pointer (some ⟨p, 0, none⟩), .pointer (some ⟨p2, 0, none⟩)] w (ReadPost N w0 w (aQ P v i)) := by
  obtain ⟨r, B, off, a1, c1, b, a2, n2, c2, a3, n3, c3, hr, ha, hlr, hfr, hz3, hz4, hc⟩ := hR.at (i := i) (by omega)
  subst ha
  rw [aQ_of hr]
  have hvr := hv r hr
  obtain ⟨x0, x1, x2, x3, x4⟩ := hc w hb
  obtain ⟨rl, hrl⟩ : ∃ n, n = r.1.length := ⟨_, rfl⟩
  rw [← hrl] at x0 hlr hvr
  obtain ⟨q, B', off', b', a4, n4, c4, a5, n5, c5, hq, ha', hc', hf⟩ := hlr.at hvr
  subst ha'
  rw [nthQ_of hq]
  have HF := Lib.hid hf
  obtain ⟨y0, y1, y2⟩ := hc' w hb
  have hlt1 := cell_lt hp
  have hlt2 := cell_lt x0
  have hlt3 := cell_lt hp2
  have hlt4 := cell_lt y0
  obtain ⟨w1, hw1⟩ : ∃ w1, w1 = w.alloc (Obj.cells #[Value.bool false, Value.slice none 0 0, Value.slice none 0 0] 47) := ⟨_, rfl⟩
  have HB1 : Hid (Below w.heap.size w w1) := Lib.hid (by rw [hw1]; exact (Below.refl _ _).alloc (Nat.le_refl _) _)
  have HR1 : Hid (w1.heap[w.heap.size]? = some (.cells #[Value.bool false, Value.slice none 0 0, Value.slice none 0 0] 47 (0, 0))) := Lib.hid (by rw [hw1]; exact heap_alloc_new w _)
  have HW1 := Lib.hid hw1.symm
  have z0 := cell_below HB1.out hp
  have z1 := cell_below HB1.out hp2
  have z2 := cell_below HB1.out x0
  have k0 := cell_below HB1.out y0
  have k1 := cell_below HB1.out y1
  have k2 := cell_below HB1.out y2
  have g0 := frozen_of_row _ _ 0 _ _ HR1.out
  have g1 := frozen_of_row _ _ 1 _ _ HR1.out
  have g2 := frozen_of_row _ _ 2 _ _ HR1.out
  have r0 := cells_later HR1.out 0 _ rfl _ (Below.refl _ _)
  have r1 := cells_later HR1.out 1 _ rfl _ (Below.refl _ _)
  have r2 := cells_later HR1.out 2 _ rfl _ (Below.refl _ _)
  clear hR hc hlr hfr hr hb hz3 hz4 hrn hv hf hq hc' hw1 x0 x1 x2 x3 x4 y0 y1 y2 hp hp2 hrl
  go_enter Tryz.func90, Tryz.ntmps90
  go_wp2_with fail
  rw [HW1.out]
  go_region
  all_goals
    go_wp2_with fail
    exact bodyPost_ret (results_cell_row rfl _ _ w.heap.size _ _ _ _ rfl (frac3_heap HR1.out) Tryz.underlying47 rfl ifrac) rfl ⟨⟨_, _, _, _, _, _, _, rfl, HF.out⟩, below_drewN (below_only HB1.out (frac3_only _ _ _ _ _) (Nat.le_refl _)) 1⟩
end Go.Proofs.YtlaphdlocchagaaGreat

/- bounds of plane: signs of prices, and columns under them. -/
namespace Go.Proofs.YtlaphdlocchagaaGreat
open Go.RowKit
attribute [local go_sem ↓] Go.wp_at_zero Go.wp_at_succ

def sQ (P : Pm) (i : Nat) : Int := ((P.rows[i]?).map (·.2.1)).getD 0
theorem sQ_of {P : Pm} {i : Nat} {r : List Rat × Int × Rat} (h : P.rows[i]? = some r) : sQ P i = r.2.1 := by unfold sQ; rw [h]; rfl
/-- Have prices the signs of the rows? -/
def signY (P : Pm) (ys : List Rat) : Bool := decide (∀ i, i < ys.length → ¬ (¬ sQ P i = 0 ∧ cmpQ (nthQ ys i) 0 = sQ P i))
/-- What a column is worth under prices; what the right sides are. -/
def colQ (P : Pm) (v : Nat) (ys : List Rat) : Rat := sumR (fun i => aQ P v i * nthQ ys i) 0 ys.length
def sideQ (P : Pm) (ys : List Rat) : Rat := sumR (fun i => bQ P i * nthQ ys i) 0 ys.length
/-- Is a column at least what it is to be, and just that if its variable is free? -/
def okCol (P : Pm) (ys goal : List Rat) (v : Nat) : Prop := 0 ≤ cmpQ (colQ P v ys) (nthQ goal v) ∧ (0 < cmpQ (colQ P v ys) (nthQ goal v) → P.free[v]? = some false)
def coverB (P : Pm) (ys goal : List Rat) : Bool := decide (∀ v, v < goal.length → 0 ≤ cmpQ (colQ P v ys) (nthQ goal v) ∧ (0 < cmpQ (colQ P v ys) (nthQ goal v) → P.free[v]? = some false))
def boundsQ (P : Pm) (ys goal : List Rat) : Bool := decide (ys.length = P.rows.length) && signY P ys && coverB P ys goal
theorem row_some {P : Pm} {i : Nat} (h : i < P.rows.length) : ∃ r, P.rows[i]? = some r := ⟨_, List.getElem?_eq_getElem h⟩
theorem sz_aQ {N : Nat} {w : World} {v : Value} {P : Pm} (h : ProgF N w v P) {i j : Nat} (hi : i < P.rows.length) (hj : ∀ r, P.rows[i]? = some r → j < r.1.length) : szQ N 1 (aQ P j i) := by
  obtain ⟨fa, fc, ga, gc, ra, rc, rfl, -, -, -, -, hR⟩ := h
  obtain ⟨r, hr⟩ := row_some hi
  obtain ⟨B, off, -, a1, c1, b, a2, n2, c2, a3, n3, c3, -, -, -, -, -, hl, -, -⟩ := hR i r hr
  rw [aQ_of hr]
  exact sz_nth hl (hj r hr)
theorem sz_bQ {N : Nat} {w : World} {v : Value} {P : Pm} (h : ProgF N w v P) {i : Nat} (hi : i < P.rows.length) : szQ N 1 (bQ P i) := by
  obtain ⟨fa, fc, ga, gc, ra, rc, rfl, -, -, -, -, hR⟩ := h
  obtain ⟨r, hr⟩ := row_some hi
  obtain ⟨B, off, -, a1, c1, b, a2, n2, c2, a3, n3, c3, -, -, -, -, -, -, hf, -⟩ := hR i r hr
  rw [bQ_of hr]
  exact few_sz hf
theorem len_sum9 {N k : Nat} {g : Nat → Rat} (hs : ∀ i, i < k → szQ (2 * N) 1 (g i)) (hk : k ≤ 100) (hN : N * k ≤ 1000) : lenQ (sumR g 0 k) ≤ 4002 := by
  have h1 := sz_len (sz_sum (g := g) (lo := 0) (n := k) fun i _ hi => hs i (by omega)) (by omega)
  have e : 2 * N * k = 2 * (N * k) := Nat.mul_assoc _ _ _
  omega
theorem row_has {P : Pm} (h : rightB2 P = true) {i v n : Nat} (hn : (n : Int) = P.vars) (hv : v < n) : ∀ r, P.rows[i]? = some r → v < r.1.length := fun r hr => by
  have := row_len h hr
  omega

set_option maxRecDepth 100000 in
set_option maxHeartbeats 8000000 in
theorem bounds_w {N : Nat} {w : World} {v x t : Value} {P : Pm} {ys goal : List Rat} (h : ProgF N w v P) (hy : ListF N w x ys) (hg : ListF N w t goal) (hrb : rightB2 P = true) (hgl : (goal.length : Int) = P.vars) (hN : N ≤ 50) (hr100 : P.rows.length ≤ 100) (hv100 : P.vars ≤ 100) (hNn : N * P.rows.length ≤ 1000) :
    Calls Tryz.prog 23 #[v, x, t] w fun e w' => e = .returned (.bool (boundsQ P ys goal)) ∧ Below w.heap.size w w' := by
  have HP := Lib.hid h
  have HY := Lib.hid hy
  have HG := Lib.hid hg
  have HRB := Lib.hid hrb
  obtain ⟨fa, fc, ga, gc, ra, rc, rfl, hz1, hz2, hB, -, hR⟩ := h
  have HBO := Lib.hid hB
  have HR := Lib.hid hR
  obtain ⟨ya, yc, rfl, -⟩ := hy
  obtain ⟨ta, tc, rfl, -⟩ := hg
  obtain ⟨n, hn⟩ : ∃ n, n = goal.length := ⟨_, rfl⟩
  obtain ⟨rn, hrn⟩ : ∃ n, n = P.rows.length := ⟨_, rfl⟩
  obtain ⟨yn, hyn⟩ : ∃ n, n = ys.length := ⟨_, rfl⟩
  obtain ⟨gn, hgn⟩ : ∃ n, n = P.goal.length := ⟨_, rfl⟩
  have hv : P.vars = (n : Int) := by omega
  have hfl : P.free.length = n := by have := (right_goal hrb).2.1; omega
  have hn100 : n ≤ 100 := by omega
  rw [hv, hfl, ← hgn, ← hrn] at HP ⊢
  rw [← hn] at HG ⊢
  rw [← hyn] at HY ⊢
  rw [← hrn] at hr100
  have HNN : Hid (N * rn ≤ 1000) := Lib.hid (by rw [hrn]; exact hNn)
  have HEQ := Lib.hid (And.intro hrn (And.intro hyn (And.intro hn (And.intro hv hfl))))
  obtain ⟨w1, hw1⟩ : ∃ w1, w1 = w.alloc (Obj.cells #[Value.int .i64 (n : Int), Value.slice fa n fc, Value.slice ga gn gc, Value.slice ra rn rc] 26) := ⟨_, rfl⟩
  have HB1 : Hid (Below w.heap.size w w1) := Lib.hid (by rw [hw1]; exact (Below.refl _ _).alloc (Nat.le_refl _) _)
  have HX1 : Hid (w1.heap[w.heap.size]? = some (.cells #[Value.int .i64 (n : Int), Value.slice fa n fc, Value.slice ga gn gc, Value.slice ra rn rc] 26 (0, 0))) := Lib.hid (by rw [hw1]; exact heap_alloc_new w _)
  have HW1 := Lib.hid hw1.symm
  clear hw1 hB hR hNn hrb hgl hv hfl hn hrn hyn hgn hz1 hz2 hv100
  have RX := Lib.hid (cells_later HX1.out)
  have hb1 := Below.refl w1.heap.size w1
  have x0 := RX.out 0 _ rfl _ hb1
  have x1 := RX.out 1 _ rfl _ hb1
  have x2 := RX.out 2 _ rfl _ hb1
  have x3 := RX.out 3 _ rfl _ hb1
  by_cases hl : yn = rn
  case neg =>
    have t0 : (yn != rn) = true := by simpa using hl
    have t0' : ((yn : Int) != (rn : Int)) = true := by simp; omega
    have HE : Hid (boundsQ P ys goal = false) := Lib.hid (by
      unfold boundsQ
      have e : decide (ys.length = P.rows.length) = false := by rw [← HEQ.out.1, ← HEQ.out.2.1]; simpa using hl
      rw [e]; rfl)
    clear hl
    go_enter Tryz.func23, Tryz.ntmps23
    go_wp2_with fail
    rw [HW1.out]
    go_ret
    exact ⟨by rw [HE.out]; first | done | rfl, HB1.out⟩
  have t0 : (yn != rn) = false := by simpa using hl
  have t0' : ((yn : Int) != (rn : Int)) = false := by simp; omega
  have HYR := Lib.hid hl
  have HLEN : Hid (decide (ys.length = P.rows.length) = true) := Lib.hid (by rw [← HEQ.out.1, ← HEQ.out.2.1]; simpa using hl)
  clear hl
  go_enter Tryz.func23, Tryz.ntmps23
  go_wp2_with fail
  rw [HW1.out]
  go_loopw [20] (fun iv wr => ∃ i : Nat, i ≤ yn ∧ iv = .int .i64 i ∧ Hid (∀ j, j < i → ¬ (¬ sQ P j = 0 ∧ cmpQ (nthQ ys j) 0 = sQ P j)) ∧ Hid (Below w1.heap.size w1 wr)) (fun iv _ => yn - (intOf iv).toNat)
  case atStart => exact ⟨0, Nat.zero_le _, rfl, Lib.hid (fun j h => absurd h (Nat.not_lt_zero j)), Lib.hid hb1⟩
  case round =>
    obtain ⟨i, hi, rfl, hd, hZ⟩ := hrel
    obtain ⟨wo, rfl⟩ : ∃ wo : World, wo = wr := ⟨_, rfl⟩
    by_cases hin : i < yn
    · have t1 : decide ((i : Int) < (yn : Int)) = true := by simp; omega
      obtain ⟨q, B, off, b, a1, n1, c1, a2, n2, c2, hq, ha, hc, hf⟩ := HY.out.at hin
      subst ha
      obtain ⟨k0, k1, k2⟩ := hc wo (below_trans HB1.out hZ.out)
      have HQ := Lib.hid (nthQ_of hq)
      have HF := Lib.hid hf
      have hirn : i < rn := by have := HYR.out; omega
      obtain ⟨r, Br, offr, ar, cr, br, ar2, nr2, cr2, ar3, nr3, cr3, hr, har, -, -, hs3, hs4, hcr⟩ := HR.out.at (i := i) (by have := HEQ.out; omega)
      subst har
      obtain ⟨sn, hsn⟩ : ∃ n, n = r.2.1 := ⟨_, rfl⟩
      rw [← hsn] at hs3 hs4
      have HSQ : Hid (sQ P i = sn) := Lib.hid (by rw [sQ_of hr, hsn])
      have HCR := Lib.hid (fun w' hb => (hcr w' hb).2.1)
      rw [← hsn] at HCR
      clear hc hf hq hr hcr hsn
      go_wp2_with ((with_reducible refine at_store ?_); refine wpList_store_var rfl _ _ _ rfl wo.heap.size rfl _ rfl _ _ (heap_alloc_new _ _) ifrac rfl frac_one ?_; intro w4 h4 hon4; refine halt ?_)
      have hb4 : Below wo.heap.size wo w4 := below_only ((Below.refl _ _).alloc (Nat.le_refl _) _) hon4 (Nat.le_refl _)
      have HZ4 := Lib.hid (below_trans hZ.out hb4)
      have y0 := cells_later h4 0 _ rfl _ (Below.refl _ _)
      have y1 := cells_later h4 1 _ rfl _ (Below.refl _ _)
      have y2 := cells_later h4 2 _ rfl _ (Below.refl _ _)
      have x3 := RX.out 3 _ rfl _ HZ4.out
      have f1 := HCR.out w4 (below_trans HB1.out HZ4.out)
      clear h4 hon4 hb4 k0 k1 k2
      refine go_on ?_
      have HSTEP : Hid ((sn = 0 ∨ ¬ cmpQ q 0 = sn) → ∀ j, j < i + 1 → ¬ (¬ sQ P j = 0 ∧ cmpQ (nthQ ys j) 0 = sQ P j)) := Lib.hid (fun h9 j hj => by
        by_cases e : j = i
        · subst e
          rw [HSQ.out, HQ.out]
          rintro ⟨h8, h7⟩
          rcases h9 with h9 | h9
          · exact h8 h9
          · exact h9 h7
        · exact hd.out j (by omega))
      by_cases hs0 : sn = 0
      · have t2 : (sn != 0) = false := by simpa using hs0
        have HD := Lib.hid (HSTEP.out (Or.inl hs0))
        clear hs0
        go_wp2_with fail
        go_roundw
        case rel => exact ⟨i + 1, by omega, by go_num, HD, HZ4⟩
        case measure => simp [intOf]; omega
      · have t2 : (sn != 0) = true := by simpa using hs0
        have K := Lib.hid (sign_f (HF.out.inF.below (below_trans HB1.out HZ4.out)))
        obtain ⟨o, ho⟩ : ∃ o, o = cmpQ q 0 := ⟨_, rfl⟩
        rw [← ho] at K
        by_cases h0 : o = sn
        · have t3 : (o == sn) = true := by simpa using h0
          have HE : Hid (boundsQ P ys goal = false) := Lib.hid (by
            have e : signY P ys = false := by
              unfold signY
              rw [decide_eq_false_iff_not]
              intro h
              exact h i (by have := HEQ.out; omega) ⟨by rw [HSQ.out]; exact hs0, by rw [HQ.out, HSQ.out, ← ho]; exact h0⟩
            unfold boundsQ; rw [e]; simp)
          clear h0 hs0 ho
          go_wp2_with fail
          refine K.out.mono ?_
          rintro en5 w5 ⟨rfl, hb5⟩
          go_wp2_with fail
          go_ret
          exact ⟨by rw [HE.out]; first | done | rfl, below_trans HB1.out (below_trans HZ4.out hb5)⟩
        · have t3 : (o == sn) = false := by simpa using h0
          have HD := Lib.hid (HSTEP.out (Or.inr (by rw [← ho]; exact h0)))
          clear h0 hs0 ho
          go_wp2_with fail
          refine K.out.mono ?_
          rintro en5 w5 ⟨rfl, hb5⟩
          have HZ5 := Lib.hid (below_trans HZ4.out hb5)
          go_wp2_with fail
          go_roundw
          case rel => exact ⟨i + 1, by omega, by go_num, HD, HZ5⟩
          case measure => simp [intOf]; omega
    · have t1 : decide ((i : Int) < (yn : Int)) = false := by simp; omega
      have HSY : Hid (signY P ys = true) := Lib.hid (by
        unfold signY
        rw [decide_eq_true_eq]
        intro j hj
        exact hd.out j (by have := HEQ.out; omega))
      have x0 := RX.out 0 _ rfl _ hZ.out
      go_wp2_with fail
      go_loopw [42] (fun iv wr => ∃ v : Nat, v ≤ n ∧ iv = .int .i64 v ∧ Hid (∀ j, j < v → okCol P ys goal j) ∧ Hid (Below w1.heap.size w1 wr)) (fun iv _ => n - (intOf iv).toNat)
      case atStart => exact ⟨0, Nat.zero_le _, rfl, Lib.hid (fun j h => absurd h (Nat.not_lt_zero j)), hZ⟩
      case round =>
        obtain ⟨v, hvn, rfl, hdv, hZv⟩ := hrel
        obtain ⟨wv, rfl⟩ : ∃ wv : World, wv = wr := ⟨_, rfl⟩
        by_cases hvl : v < n
        · have t2 : decide ((v : Int) < (n : Int)) = true := by simp; omega
          obtain ⟨q, B, off, b, a1, n1, c1, a2, n2, c2, hq, ha, hc, hf⟩ := HG.out.at hvl
          subst ha
          have HW := Lib.hid (below_trans HB1.out hZv.out)
          have HCG := Lib.hid (fun w' (hb : Below wv.heap.size wv w') => hc w' (below_trans HW.out hb))
          have HQ := Lib.hid (nthQ_of hq)
          have HF := Lib.hid hf
          obtain ⟨D, hD⟩ : ∃ D, D = colQ P v ys := ⟨_, rfl⟩
          have HD0 := Lib.hid hD
          have HLD : Hid (lenQ D ≤ 4002) := Lib.hid (by
            rw [hD]
            unfold colQ
            refine len_sum9 (N := N) (fun i hi => ?_) (by have := HEQ.out; have := HYR.out; omega) (by have h8 := HNN.out; rw [← HEQ.out.2.1, HYR.out]; exact h8)
            exact sz_mul (sz_aQ HP.out (by have := HEQ.out; have := HYR.out; omega) (row_has HRB.out HEQ.out.2.2.2.1.symm hvl)) (sz_nth HY.out hi))
          obtain ⟨o, ho⟩ : ∃ o, o = cmpQ D q := ⟨_, rfl⟩
          have HO := Lib.hid ho
          have KCO := Lib.hid (fun w' => column_w (w := w') (v := (v : Int)) (ra := ra) (rn := rn) (rc := rc))
          have KP : Hid (∀ w' g g2, Below wv.heap.size wv w' → w'.cell? ⟨g, 0, none⟩ = some (.slice ra rn rc) → w'.cell? ⟨g2, 0, none⟩ = some (.int .i64 (v : Nat)) → Calls Tryz.prog 25 #[.func (.func 90) #[] #[.pointer (some ⟨g, 0, none⟩), .pointer (some ⟨g2, 0, none⟩)], .slice ya yn yc] w' (RTell w' D)) := Lib.hid (fun w' g g2 hb hg1 hg2 => by
            have h9 := pcolumn_w (N := N) (w := w') (p := g) (p2 := g2) (n' := yn) (g := aQ P v) (qs := ys) (fun i w'' hi hb9 => column1_w (w0 := w') hb9 (cell_below hb9 hg1) (cell_below hb9 hg2) (HR.out.below (below_trans HW.out hb)) (by have := HYR.out; omega) HEQ.out.1 (row_has HRB.out HEQ.out.2.2.2.1.symm hvl)) (HY.out.below (below_trans HW.out hb)) hN (by have := HYR.out; omega) (by rw [HYR.out]; exact HNN.out)
            have e9 : sumR (fun i => aQ P v i * nthQ ys i) 0 yn = D := by rw [HD0.out]; unfold colQ; rw [HEQ.out.2.1]
            rw [e9] at h9
            exact h9)
          have KC := Lib.hid (fun w' y (hb : Below wv.heap.size wv w') (hy : FracV w' y D) => cmp_f (w := w') (hy.inF (by have := HLD.out; omega)) (HF.out.inF.below (below_trans HW.out hb)))
          rw [← ho] at KC
          clear hc hf hq hD ho
          obtain ⟨fb, Bf, of, hfb, hfa, hcf⟩ := HBO.out.at (i := v) (by have := HEQ.out; omega)
          subst hfa
          have HFB := Lib.hid hfb
          have HCF := Lib.hid (fun w' (hb : Below w1.heap.size w1 w') => hcf w' (below_trans HB1.out hb))
          clear hfb hcf
          have x3 := RX.out 3 _ rfl _ hZv.out
          have hz0 : Below wv.heap.size wv wv.drew := below_drewN (Below.refl _ _) 1
          have RXV := Lib.hid (fun w' (hb : Below wv.heap.size wv w') => RX.out 3 _ rfl w' (below_trans hZv.out hb))
          go_wp2_with fail
          go_region_held3 (fun w' => w'.cell? ⟨w.heap.size, 3, none⟩ = some (.slice ra rn rc) ∧ w'.cell? ⟨B, off + v * 3, none⟩ = some (.bool b) ∧ w'.cell? ⟨B, off + v * 3 + 1, none⟩ = some (.slice a1 n1 c1) ∧ w'.cell? ⟨B, off + v * 3 + 2, none⟩ = some (.slice a2 n2 c2))
            (((try dsimp only); refine ⟨?_, ?_, ?_, ?_⟩ <;> (first | exact RXV.out _ (by assumption) | exact (HCG.out _ (by assumption)).1 | exact (HCG.out _ (by assumption)).2.1 | exact (HCG.out _ (by assumption)).2.2)))
            (first | (go_at_call 49; refine (KCO.out _).mono ?_; rintro en5 w5 ⟨⟨g5, h5, rfl, hg5, hh5⟩, hb5⟩; have hz5 := below_trans hz0 hb5) | (go_at_call 25; refine (KP.out _ _ _ hz5 hg5 hh5).mono ?_; rintro en6 w6 ⟨⟨v6, rfl, f6⟩, hb6⟩; obtain ⟨a6, n6, c6, i6, j6, k6, hq6⟩ := frac_form f6; subst hq6; have hz6 := below_trans hz5 hb6) | (go_at_call 24; refine (KC.out _ _ hz6 f6).mono ?_; rintro en7 w7 ⟨rfl, hb7⟩; have hz7 := below_trans hz6 hb7))
          all_goals
            have HZ7 := Lib.hid (below_trans hZv.out hz7)
            clear hz0 hz5 hz6 hz7 hb5 hb6 hb7 f6 hg5 hh5 x3
            have x1 := RX.out 1 _ rfl _ HZ7.out
            have f0 := HCF.out _ HZ7.out
            have HNOT : Hid (¬ okCol P ys goal v → boundsQ P ys goal = false) := Lib.hid (fun h9 => by
              have e : coverB P ys goal = false := by
                unfold coverB
                rw [decide_eq_false_iff_not]
                intro h
                exact h9 (h v (by have := HEQ.out; omega))
              unfold boundsQ; rw [e]; simp)
            have HOKC : Hid (okCol P ys goal v ↔ (0 ≤ o ∧ (0 < o → fb = false))) := Lib.hid (by
              unfold okCol
              rw [HQ.out, ← HD0.out, ← HO.out, HFB.out]
              simp)
            have HYES : Hid (okCol P ys goal v → ∀ j, j < v + 1 → okCol P ys goal j) := Lib.hid (fun h9 j hj => by
              by_cases e : j = v
              · subst e; exact h9
              · exact hdv.out j (by omega))
            rcases (by omega : o < 0 ∨ o = 0 ∨ 0 < o) with h8 | h8 | h8
            · have u1 : decide (o < 0) = true := by simpa using h8
              have HE := Lib.hid (HNOT.out (fun h => by have := HOKC.out.1 h; omega))
              clear h8
              go_wp2_with fail
              go_ret
              exact ⟨by rw [HE.out]; first | done | rfl, below_trans HB1.out HZ7.out⟩
            · subst h8
              have HDV := Lib.hid (HYES.out (HOKC.out.2 ⟨by omega, fun h => by omega⟩))
              go_wp2_with fail
              go_roundw
              case rel => exact ⟨v + 1, by omega, by go_num, HDV, HZ7⟩
              case measure => simp [intOf]; omega
            · have u1 : decide (o < 0) = false := by simp; omega
              have u2 : decide (0 < o) = true := by simpa using h8
              cases fb with
              | true =>
                have HE := Lib.hid (HNOT.out (fun h => by have := (HOKC.out.1 h).2 h8; cases this))
                clear h8
                go_wp2_with fail
                go_ret
                exact ⟨by rw [HE.out]; first | done | rfl, below_trans HB1.out HZ7.out⟩
              | false =>
                have HDV := Lib.hid (HYES.out (HOKC.out.2 ⟨by omega, fun _ => rfl⟩))
                clear h8
                go_wp2_with fail
                go_roundw
                case rel => exact ⟨v + 1, by omega, by go_num, HDV, HZ7⟩
                case measure => simp [intOf]; omega
        · have t2 : decide ((v : Int) < (n : Int)) = false := by simp; omega
          have HE : Hid (boundsQ P ys goal = true) := Lib.hid (by
            have e : coverB P ys goal = true := by
              unfold coverB
              rw [decide_eq_true_eq]
              intro j hj
              exact hdv.out j (by have := HEQ.out; omega)
            unfold boundsQ; rw [HLEN.out, HSY.out, e]; rfl)
          go_wp2_with fail
          go_ret
          exact ⟨by rw [HE.out]; first | done | rfl, below_trans HB1.out hZv.out⟩
end Go.Proofs.YtlaphdlocchagaaGreat
