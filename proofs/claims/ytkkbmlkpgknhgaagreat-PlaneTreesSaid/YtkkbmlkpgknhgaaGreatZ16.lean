import Derived.Test.YtkkbmlkpgknhgaaGreatZ4
import Derived.Test.YtkkbmlkpgknhgaaGreatZ12
import Derived.Test.YtkkbmlkpgknhgaaGreatZ14
import Derived.Test.YtkkbmlkpgknhgaaGreatZ15
import Derived.Deep.RegionHeld3
import Derived.Deep.DrawnRows
set_option maxRecDepth 100000
set_option maxHeartbeats 16000000
namespace Go.Proofs.YtkkbmlkpgknhgaaGreat
open Go.RowKit
variable {B M N i j n p rc rn : Nat} {P : Pm} {goal qs ys : List Rat} {ra : Option Addr} {t v x : Value} {w w' w0 : World}
def n3q (w : World) (B : Nat) (e : TypeId) (n : Nat) (f : Nat → Value × Value × Value) : Prop :=
 ∃ c : Array Value, w.heap[B]? = some (.cells c e (0, 0)) ∧ c.size = n * 3 ∧ ∀ i, i < n → c[i * 3]? = some (f i).1 ∧ c[i * 3 + 1]? = some (f i).2.1 ∧ c[i * 3 + 2]? = some (f i).2.2
theorem n3q.below {e : TypeId} {f : Nat → Value × Value × Value} (h : n3q w B e n f) (hB : B < N) (hb : Below N w w') : n3q w' B e n f := by
 obtain ⟨c, h1, h2, h3⟩ := h
 exact ⟨c, (hb.block B hB).trans h1, h2, h3⟩
theorem n3q.only {D : Nat} {e : TypeId} {f : Nat → Value × Value × Value} (h : n3q w B e n f) (hne : B ≠ D) (hb : z9q D w w') : n3q w' B e n f := by
 obtain ⟨c, h1, h2, h3⟩ := h
 exact ⟨c, (hb.block B hne).trans h1, h2, h3⟩
theorem n3q.lt {e : TypeId} {f : Nat → Value × Value × Value} (h : n3q w B e n f) : B < w.heap.size := by
 obtain ⟨c, h1, -, -⟩ := h
 exact (Array.getElem?_eq_some_iff.1 h1).1
theorem n3q.cell {e : TypeId} {f : Nat → Value × Value × Value} (h : n3q w B e n f) {i : Nat} (hi : i < n) :
  w.cell? ⟨B, i * 3, none⟩ = some (f i).1 ∧ w.cell? ⟨B, i * 3 + 1, none⟩ = some (f i).2.1 ∧ w.cell? ⟨B, i * 3 + 2, none⟩ = some (f i).2.2 := by
 obtain ⟨c, h1, -, h3⟩ := h
 obtain ⟨k0, k1, k2⟩ := h3 i hi
 exact ⟨by rw [cell_of_row _ _ _ _ _ _ h1]; exact k0, by rw [cell_of_row _ _ _ _ _ _ h1]; exact k1, by rw [cell_of_row _ _ _ _ _ _ h1]; exact k2⟩

theorem u1h (z0 z1 z2 : Value) (m k : Nat) (hk : k < m) : (madeCells #[z0, z1, z2] m)[k]? = some (if k % 3 = 0 then z0 else if k % 3 = 1 then z1 else z2) := by
 unfold madeCells
 rw [Array.getElem?_map, Array.getElem?_range, if_pos hk]
 simp only [Option.map_some, Option.some.injEq]
 have h3 : k % 3 < 3 := Nat.mod_lt _ (by omega)
 have hs : (#[z0, z1, z2] : Array Value).size = 3 := rfl
 rw [hs]
 rcases (by omega : k % 3 = 0 ∨ k % 3 = 1 ∨ k % 3 = 2) with e | e | e <;> rw [e] <;> simp

theorem q3j {P : Program} {ops : Array Oper} {rest : List Oper} {o : Oper} {a : Act} {Q : Exit → Act → World → Prop}
  (hg : o.guard = none) (l c : Operand) (t e : TypeId) (hop : o.op = Op.makeSlice t l c) (h1 : P.underlying t = some (.slice e)) (z0 z1 z2 : Value) (by_ : Nat)
  (h2 : (P.info? e).map (fun i => (i.zero, i.size, i.bytes)) = some (some (.agg #[z0, z1, z2]), 3, by_)) (n : Nat) (hl : a.eval l = .int .i64 n) (hc : a.eval c = .int .i64 n) (hn : n ≤ 1073741824) (hby : by_ ≤ 4096)
  (hK : ∀ w', n3q w' w.heap.size e n (fun _ => (z0, z1, z2)) → Below w.heap.size w w' → Hi (w'.heap.size = w.heap.size + 1) → wpList P ops Q rest (a.put o.dst (.slice (some ⟨w.heap.size, 0, none⟩) n n)) w') :
  wpList P ops Q (o :: rest) a w := by
 obtain ⟨i, hi, hz, hs, hb⟩ := info_parts h2
 refine wpList_plain hg fun K hK' => ?_
 have hbn : i.bytes * n ≤ 4096 * 1073741824 := Nat.mul_le_mul (by omega) hn
 have hr := run_make (P := P) w t e i _ h1 hi hz .i64 .i64 n n (by omega) (Int.le_refl _) (by have : ((i.bytes * n : Nat) : Int) ≤ 4398046511104 := (by omega); rw [Int.natCast_mul] at this; omega) (by omega)
 simp only [Int.toNat_natCast, hs, Value.cells] at hr
 unfold Oper.wp
 simp [execOp, hop, hl, hc, hr, Result.andThen]
 refine hK' _ _ (hK _ ?_ ((qb).alloc qm _) (hdd (by simp)))
 refine ⟨_, heap_alloc_new w _, size_madeCells _ _, fun i hi => ⟨?_, ?_, ?_⟩⟩
 ·
  rw [u1h _ _ _ _ _ (by omega), if_pos (by omega)]
 ·
  rw [u1h _ _ _ _ _ (by omega), if_neg (by omega), if_pos (by omega)]
 ·
  rw [u1h _ _ _ _ _ (by omega), if_neg (by omega), if_neg (by omega)]

theorem q8w {P : Program} (w : World) (g off : Nat) (t ty : TypeId) (cur vs : Array Value) (hg : w.heap[g]? = some (.cells cur t (0, 0))) (hi : (P.info? ty).map (·.size) = some vs.size) (hs : off + vs.size ≤ cur.size) (h1 : ∀ v ∈ vs.toList, v.oneCell' = true) :
  (storeVar ty ⟨g, off, none⟩ (.agg vs)).run P w = .ok () (w.setRow g (cur.toList.take off ++ vs.toList ++ cur.toList.drop (off + vs.size)).toArray) := by
 have h := run_storeCells_at (P := P) g off t vs.toList 0 cur w hg (by simpa using hs) h1
 rw [Nat.add_zero] at h
 cases hq : P.info? ty with
 | none => simp [hq] at hi
 | some i =>
  have hsz : i.size = vs.size := by simpa [hq] using hi
  simp [storeVar, Sem.run_bind, sizeOf, typeInfo, hq, hsz, Value.cells, h]

theorem q2x {P : Program} {ops : Array Oper} {rest : List Oper} {o : Oper} {a : Act} {Q : Exit → Act → World → Prop} (hgd : o.guard = none) (ty : TypeId) (x y : Operand) (ho : o.op = .store ty x y)
  (g n k : Nat) (hx : a.eval x = .pointer (some ⟨g, k * 3, none⟩)) (v0 v1 v2 : Value) (hy : a.eval y = .agg #[v0, v1, v2]) (t : TypeId) (f : Nat → Value × Value × Value) (hg : n3q w g t n f) (hk : k < n)
  (hi : (P.info? ty).map (·.size) = some 3) (h1 : ∀ v ∈ (#[v0, v1, v2] : Array Value).toList, v.oneCell' = true)
  (h : ∀ w', n3q w' g t n (fun j => if j = k then (v0, v1, v2) else f j) → z9q g w w' → wpList P ops Q rest (a.put o.dst undef) w') : wpList P ops Q (o :: rest) a w := by
 obtain ⟨cur, hc, hn, hf⟩ := hg
 refine wpList_plain hgd fun K hK => ?_
 unfold Oper.wp execOp
 have hr := q8w (P := P) w g (k * 3) t ty cur #[v0, v1, v2] hc hi (by simp; omega) h1
 simp only [ho, hx, hy, Instr.storeAt, Instr.sureAddr, Sem.run_bind, Sem.run_pure, Result.andThen_ok, hr]
 refine hK _ _ (h _ ⟨_, setRow_heap w g cur _ t _ hc, ?_, fun i hi => ?_⟩ ⟨rfl, rfl, rfl, by simp [World.setRow], fun k hk => setRow_other w g k _ hk⟩)
 ·
  simp; omega
 ·
  have ht : (cur.toList.take (k * 3)).length = k * 3 := by simp; omega
  have hget : ∀ m, (cur.toList.take (k * 3) ++ (#[v0, v1, v2] : Array Value).toList ++ cur.toList.drop (k * 3 + 3)).toArray[m]? = if m < k * 3 then cur[m]? else if m < k * 3 + 3 then [v0, v1, v2][m - k * 3]? else cur[m]? := by
   intro m
   rw [List.getElem?_toArray, List.append_assoc]
   by_cases h1 : m < k * 3
   ·
    rw [if_pos h1, List.getElem?_append_left (by omega), List.getElem?_take_of_lt h1]; simp
   ·
    rw [if_neg h1, List.getElem?_append_right (by omega), ht]
    by_cases h2 : m < k * 3 + 3
    ·
     rw [if_pos h2, List.getElem?_append_left (by simp; omega)]
    ·
     rw [if_neg h2, List.getElem?_append_right (by simp; omega), List.getElem?_drop]
     rw [show k * 3 + 3 + (m - k * 3 - (#[v0, v1, v2] : Array Value).toList.length) = m by simp; omega]
     simp
  obtain ⟨e0, e1, e2⟩ := hf i hi
  have hsz : (#[v0, v1, v2] : Array Value).size = 3 := rfl
  rw [hsz, hget, hget, hget]
  by_cases hik : i = k
  ·
   subst hik
   simp only [↓reduceIte]
   rw [if_neg (by omega), if_pos (by omega), if_neg (by omega), if_pos (by omega), if_neg (by omega), if_pos (by omega)]
   rw [Nat.sub_self, show i * 3 + 1 - i * 3 = 1 by omega, show i * 3 + 2 - i * 3 = 2 by omega]
   exact ⟨rfl, rfl, rfl⟩
  ·
   simp only [if_neg hik]
   by_cases hlt : i < k
   ·
    rw [if_pos (by omega), if_pos (by omega), if_pos (by omega)]
    exact ⟨e0, e1, e2⟩
   ·
    rw [if_neg (by omega), if_neg (by omega), if_neg (by omega), if_neg (by omega), if_neg (by omega), if_neg (by omega)]
    exact ⟨e0, e1, e2⟩
def x9q (w : World) (B n j : Nat) (g : Nat → Rat) : Prop :=
 ∃ f, n3q w B 43 n f ∧ ∀ i, i < n → ∃ a1 n1 c1 b a2 n2 c2, f i = (.bool b, .slice a1 n1 c1, .slice a2 n2 c2) ∧ (i < j → j3q w (.agg #[.bool b, .slice a1 n1 c1, .slice a2 n2 c2]) (g i))
theorem x9q.below {g : Nat → Rat} (h : x9q w B n j g) (hb : Below w.heap.size w w') : x9q w' B n j g := by
 obtain ⟨f, hr, he⟩ := h
 refine ⟨f, hr.below hr.lt hb, fun i hi => ?_⟩
 obtain ⟨a1, n1, c1, b, a2, n2, c2, e, hq⟩ := he i hi
 exact ⟨a1, n1, c1, b, a2, n2, c2, e, fun hj => (hq hj).below hb⟩
theorem x9q.lt {g : Nat → Rat} (h : x9q w B n j g) : B < w.heap.size := by
 obtain ⟨f, hr, -⟩ := h
 exact hr.lt
theorem q9h {f : Nat → Value × Value × Value} (hr : n3q w B 43 n f) (hf : ∀ i, i < n → ∃ a1 n1 c1 b a2 n2 c2, f i = (.bool b, .slice a1 n1 c1, .slice a2 n2 c2)) :
  ∃ c, w.heap[B]? = some (.cells c 43 (0, 0)) ∧ ∀ (j k : Nat), c[j]? ≠ some (U k) := by
 obtain ⟨c, h1, h2, h3⟩ := hr
 refine ⟨c, h1, fun j k hk => ?_⟩
 have hj : j < c.size := (Array.getElem?_eq_some_iff.1 hk).1
 have hi : j / 3 < n := by omega
 obtain ⟨a1, n1, c1, b, a2, n2, c2, e⟩ := hf (j / 3) hi
 obtain ⟨k0, k1, k2⟩ := h3 (j / 3) hi
 rw [e] at k0 k1 k2
 rcases (by omega : j = j / 3 * 3 ∨ j = j / 3 * 3 + 1 ∨ j = j / 3 * 3 + 2) with h | h | h
 ·
  rw [h, k0] at hk; simp [U] at hk
 ·
  rw [h, k1] at hk; simp [U] at hk
 ·
  rw [h, k2] at hk; simp [U] at hk
theorem x9q.store {g : Nat → Rat} {a1 a2 : Option Addr} {n1 c1 n2 c2 : Nat} {b : Bool} {f : Nat → Value × Value × Value}
  (hr : n3q w B 43 n f) (he : ∀ i, i < n → ∃ a1 n1 c1 b a2 n2 c2, f i = (.bool b, .slice a1 n1 c1, .slice a2 n2 c2) ∧ (i < j → j3q w (.agg #[.bool b, .slice a1 n1 c1, .slice a2 n2 c2]) (g i)))
  (hq : j3q w (.agg #[.bool b, .slice a1 n1 c1, .slice a2 n2 c2]) (g j)) (hr' : n3q w' B 43 n (fun i => if i = j then (.bool b, .slice a1 n1 c1, .slice a2 n2 c2) else f i)) (ho : z9q B w w') : x9q w' B n (j + 1) g := by
 obtain ⟨c, hc, hU⟩ := q9h hr (fun i hi => by obtain ⟨a1, n1, c1, b, a2, n2, c2, e, -⟩ := he i hi; exact ⟨a1, n1, c1, b, a2, n2, c2, e⟩)
 have keep : ∀ {v : Value} {q : Rat}, j3q w v q → j3q w' v q := by
  intro v q h
  obtain ⟨u, d, rfl, h1, h2⟩ := h
  exact ⟨u, d, rfl, h1.other hc hU ho, h2.other hc hU ho⟩
 refine ⟨_, hr', fun i hi => ?_⟩
 by_cases hij : i = j
 ·
  subst hij
  exact ⟨a1, n1, c1, b, a2, n2, c2, by simp, fun _ => keep hq⟩
 ·
  obtain ⟨a1', n1', c1', b', a2', n2', c2', e, h⟩ := he i hi
  exact ⟨a1', n1', c1', b', a2', n2', c2', by simp only [if_neg hij]; exact e, fun h9 => keep (h (by omega))⟩
theorem z5j : (Tryz.prog.info? 43).map (fun i => (i.zero, i.size, i.bytes)) = some (some (.agg #[Value.bool false, Value.slice none 0 0, Value.slice none 0 0]), 3, 56) := by kernel_rfl

theorem x9q.list (h : x9q w B n n (q9q qs)) (hn : n = qs.length) (hs : ∀ i, i < n → (q2q (q9q qs i).num.natAbs).length ≤ N ∧ (q2q (q9q qs i).den).length ≤ N ∧ j5q (q9q qs i) ≤ 4096) : z1q N w (.slice (some ⟨B, 0, none⟩) n n) qs := by
 obtain ⟨f, hr, he⟩ := h
 refine ⟨_, n, by rw [hn], fun i q hi => ?_⟩
 have hin : i < n := by rw [hn]; exact (List.getElem?_eq_some_iff.1 hi).1
 obtain ⟨a1, n1, c1, b, a2, n2, c2, e, hq⟩ := he i hin
 obtain ⟨k0, k1, k2⟩ := hr.cell hin
 rw [e] at k0 k1 k2
 have e2 : q9q qs i = q := v9q hi
 obtain ⟨s1, s2, s3⟩ := hs i hin
 have hv := hq hin
 rw [e2] at hv s1 s2 s3
 obtain ⟨u, d, he9, hu, hd⟩ := hv
 refine ⟨B, 0, b, a1, n1, c1, a2, n2, c2, rfl, by rw [Nat.zero_add]; exact k0, by rw [Nat.zero_add]; exact k1, by rw [Nat.zero_add]; exact k2, ?_⟩
 exact ⟨_, _, _, ⟨u, d, he9, hu, hd⟩, (t4q s3).symm, s1, s2⟩
end Go.Proofs.YtkkbmlkpgknhgaaGreat
namespace Go.Proofs.YtkkbmlkpgknhgaaGreat
open Go.RowKit
attribute [local go_sem ↓] Go.wp_at_zero Go.wp_at_succ
variable {B M N i j n p rc rn : Nat} {P : Pm} {goal qs ys : List Rat} {ra : Option Addr} {t v x : Value} {w w' w0 : World}
theorem v6q.up {q : Rat} (h : v6q N w v q) (hNM : N ≤ M) : v6q M w v q := by
 obtain ⟨b, l, m, h1, h2, h3, h4⟩ := h
 exact ⟨b, l, m, h1, h2, by omega, by omega⟩
theorem z1q.up (h : z1q N w v qs) (hNM : N ≤ M) : z1q M w v qs := by
 obtain ⟨a, c, rfl, h⟩ := h
 refine ⟨a, c, rfl, fun i q hq => ?_⟩
 obtain ⟨B, off, b, a1, n1, c1, a2, n2, c2, ha, h0, h1, h2, hf⟩ := h i q hq
 exact ⟨B, off, b, a1, n1, c1, a2, n2, c2, ha, h0, h1, h2, hf.up hNM⟩
theorem j2x.up {o : Nat} {r : List Rat × Int × Rat} (h : j2x N w B o r) (hNM : N ≤ M) : j2x M w B o r := by
 obtain ⟨a1, c1, b, a2, n2, c2, a3, n3, c3, h0, h1, h2, h3, h4, hl, hf, hz⟩ := h
 exact ⟨a1, c1, b, a2, n2, c2, a3, n3, c3, h0, h1, h2, h3, h4, hl.up hNM, hf.up hNM, hz⟩
theorem y9q.up (h : y9q N w v P) (hNM : N ≤ M) : y9q M w v P := by
 obtain ⟨fa, fc, ga, gc, ra, rc, hv, h1, h2, hf, hg, hr⟩ := h
 refine ⟨fa, fc, ga, gc, ra, rc, hv, h1, h2, hf, hg.up hNM, fun i r hi => ?_⟩
 obtain ⟨B, off, ha, hr⟩ := hr i r hi
 exact ⟨B, off, ha, hr.up hNM⟩

def bQ (P : Pm) (i : Nat) : Rat := ((P.rows[i]?).map (·.2.2)).getD 0
def aQ (P : Pm) (v i : Nat) : Rat := ((P.rows[i]?).map (fun r => q9q r.1 v)).getD 0
theorem v9k {r : List Rat × Int × Rat} (h : P.rows[i]? = some r) : bQ P i = r.2.2 := by unfold bQ; rw [h]; rfl
theorem v9y {v : Nat} {r : List Rat × Int × Rat} (h : P.rows[i]? = some r) : aQ P v i = q9q r.1 v := by unfold aQ; rw [h]; rfl

theorem v7h {z : Int} {fa ga : Option Addr} {fn fc gn gc : Nat} :
  Calls Tryz.prog 27 #[.agg #[.int .i64 z, .slice fa fn fc, .slice ga gn gc, .slice ra rn rc]] w fun e w' => (∃ g, e = .returned (.func (.func 60) #[] #[.pointer (some ⟨g, 0, none⟩)]) ∧ w'.cell? ⟨g, 3, none⟩ = some (.slice ra rn rc)) ∧ Below w.heap.size w w' := by
 have hmf : ∀ (fn : Fn) (first cap : Array Value) (w : World), (Instr.makeFunc fn first cap).run Tryz.prog w = .ok (.func fn first cap) w := fun _ _ _ _ => rfl
 go_enter Tryz.func27, Tryz.ntmps27
 go_wp2_with fail
 go_ret
 exact ⟨⟨_, rfl, by rw [cell_of_row _ _ _ _ _ _ (heap_alloc_new w _)]; rfl⟩, (qb).alloc qm _⟩
theorem x3k {v : Int} :
  Calls Tryz.prog 28 #[.slice ra rn rc, .int .i64 v] w fun e w' => (∃ g g2, e = .returned (.func (.func 61) #[] #[.pointer (some ⟨g, 0, none⟩), .pointer (some ⟨g2, 0, none⟩)]) ∧ w'.cell? ⟨g, 0, none⟩ = some (.slice ra rn rc) ∧ w'.cell? ⟨g2, 0, none⟩ = some (.int .i64 v)) ∧ Below w.heap.size w w' := by
 have hmf : ∀ (fn : Fn) (first cap : Array Value) (w : World), (Instr.makeFunc fn first cap).run Tryz.prog w = .ok (.func fn first cap) w := fun _ _ _ _ => rfl
 go_enter Tryz.func28, Tryz.ntmps28
 go_wp2_with fail
 go_ret
 exact ⟨⟨_, _, rfl, by rw [cell_of_row _ _ _ _ _ _ (heap_alloc2_old w _ _)]; rfl, by rw [cell_of_row _ _ _ _ _ _ (heap_alloc2_new w _ _)]; rfl⟩, ((qb).alloc qm _).alloc (by simp) _⟩

theorem v0v (hb : Below w0.heap.size w0 w) (hp : w.cell? ⟨p, 3, none⟩ = some (.slice ra rn rc)) (hR : d6q N w0 ra P.rows) (hi : i < rn) (hrn : rn = P.rows.length) :
  Calls Tryz.prog 60 #[.int .i64 (i : Nat), .pointer (some ⟨p, 0, none⟩)] w (q5j N w0 w (bQ P i)) := by
 obtain ⟨r, B, off, a1, c1, b, a2, n2, c2, a3, n3, c3, hr, ha, hlr, hfr, hz3, hz4, hc⟩ := hR.at (i := i) (by omega)
 subst ha
 rw [v9k hr]
 have HF := hdd hfr
 obtain ⟨x0, x1, x2, x3, x4⟩ := hc w hb
 have hlt1 := g9q hp
 have hlt2 := g9q x0
 clear hR hc hlr hfr hr hb hz3 hz4 hrn
 go_enter Tryz.func60, Tryz.ntmps60
 go_wp2_with fail
 exact bodyPost_ret (results_cell_row rfl _ _ w.heap.size _ _ _ _ rfl (heap_alloc_new w _) Tryz.underlying43 rfl v0q) rfl ⟨⟨_, _, _, _, _, _, _, rfl, HF.o⟩, (qb).alloc qm _⟩

theorem u5v {p2 v : Nat} (hb : Below w0.heap.size w0 w) (hp : w.cell? ⟨p, 0, none⟩ = some (.slice ra rn rc)) (hp2 : w.cell? ⟨p2, 0, none⟩ = some (.int .i64 (v : Nat))) (hR : d6q N w0 ra P.rows) (hi : i < rn) (hrn : rn = P.rows.length) (hv : ∀ r, P.rows[i]? = some r → v < r.1.length) :
  Calls Tryz.prog 61 #[.int .i64 (i : Nat), .pointer (some ⟨p, 0, none⟩), .pointer (some ⟨p2, 0, none⟩)] w (q5j N w0 w (aQ P v i)) := by
 obtain ⟨r, B, off, a1, c1, b, a2, n2, c2, a3, n3, c3, hr, ha, hlr, hfr, hz3, hz4, hc⟩ := hR.at (i := i) (by omega)
 subst ha
 rw [v9y hr]
 have hvr := hv r hr
 obtain ⟨x0, x1, x2, x3, x4⟩ := hc w hb
 obtain ⟨rl, hrl⟩ := qx (r.1.length)
 rw [← hrl] at x0 hlr hvr
 obtain ⟨q, B', off', b', a4, n4, c4, a5, n5, c5, hq, ha', hc', hf⟩ := hlr.at hvr
 subst ha'
 rw [v9q hq]
 have HF := hdd hf
 obtain ⟨y0, y1, y2⟩ := hc' w hb
 have hlt1 := g9q hp
 have hlt2 := g9q x0
 have hlt3 := g9q hp2
 have hlt4 := g9q y0
 obtain ⟨w1, hw1, HB1, HR1⟩ := al1 w #[.bool false, .slice none 0 0, .slice none 0 0] 43
 have HW1 := hdd hw1.symm
 have z0 := q3q HB1.o hp
 have z1 := q3q HB1.o hp2
 have z2 := q3q HB1.o x0
 have k0 := q3q HB1.o y0
 have k1 := q3q HB1.o y1
 have k2 := q3q HB1.o y2
 have g0 := frozen_of_row _ _ 0 _ _ HR1.o
 have g1 := frozen_of_row _ _ 1 _ _ HR1.o
 have g2 := frozen_of_row _ _ 2 _ _ HR1.o
 have r0 := q1q HR1.o 0 _ rfl _ qb
 have r1 := q1q HR1.o 1 _ rfl _ qb
 have r2 := q1q HR1.o 2 _ rfl _ qb
 clear hR hc hlr hfr hr hb hz3 hz4 hrn hv hf hq hc' hw1 x0 x1 x2 x3 x4 y0 y1 y2 hp hp2 hrl
 go_enter Tryz.func61, Tryz.ntmps61
 go_wp2_with fail
 rw [HW1.o]
 go_region
 all_goals
  go_wp2_with fail
  exact bodyPost_ret (results_cell_row rfl _ _ w.heap.size _ _ _ _ rfl (z5q HR1.o) Tryz.underlying43 rfl v0q) rfl ⟨⟨_, _, _, _, _, _, _, rfl, HF.o⟩, q5q (q4q HB1.o (q7q _ _ _ _ _) qm) 1⟩
def sQ (P : Pm) (i : Nat) : Int := ((P.rows[i]?).map (·.2.1)).getD 0
theorem x9k {r : List Rat × Int × Rat} (h : P.rows[i]? = some r) : sQ P i = r.2.1 := by unfold sQ; rw [h]; rfl
def q0h (P : Pm) (ys : List Rat) : Bool := decide (∀ i, i < ys.length → ¬ (¬ sQ P i = 0 ∧ z7q (q9q ys i) 0 = sQ P i))
def q9k (P : Pm) (v : Nat) (ys : List Rat) : Rat := j8q (fun i => aQ P v i * q9q ys i) 0 ys.length
def n1q (P : Pm) (ys : List Rat) : Rat := j8q (fun i => bQ P i * q9q ys i) 0 ys.length
def e4q (P : Pm) (ys goal : List Rat) (v : Nat) : Prop := 0 ≤ z7q (q9k P v ys) (q9q goal v) ∧ (0 < z7q (q9k P v ys) (q9q goal v) → P.free[v]? = some false)
def f6q (P : Pm) (ys goal : List Rat) : Bool := decide (∀ v, v < goal.length → 0 ≤ z7q (q9k P v ys) (q9q goal v) ∧ (0 < z7q (q9k P v ys) (q9q goal v) → P.free[v]? = some false))
def x1q (P : Pm) (ys goal : List Rat) : Bool := decide (ys.length = P.rows.length) && q0h P ys && f6q P ys goal
theorem y8k (h : i < P.rows.length) : ∃ r, P.rows[i]? = some r := ⟨_, List.getElem?_eq_getElem h⟩
theorem x9w (h : y9q N w v P) {i j : Nat} (hi : i < P.rows.length) (hj : ∀ r, P.rows[i]? = some r → j < r.1.length) : szQ N 1 (aQ P j i) := by
 obtain ⟨fa, fc, ga, gc, ra, rc, rfl, -, -, -, -, hR⟩ := h
 obtain ⟨r, hr⟩ := y8k hi
 obtain ⟨B, off, -, a1, c1, b, a2, n2, c2, a3, n3, c3, -, -, -, -, -, hl, -, -⟩ := hR i r hr
 rw [v9y hr]
 exact q7z hl (hj r hr)
theorem x9h (h : y9q N w v P) {i : Nat} (hi : i < P.rows.length) : szQ N 1 (bQ P i) := by
 obtain ⟨fa, fc, ga, gc, ra, rc, rfl, -, -, -, -, hR⟩ := h
 obtain ⟨r, hr⟩ := y8k hi
 obtain ⟨B, off, -, a1, c1, b, a2, n2, c2, a3, n3, c3, -, -, -, -, -, -, hf, -⟩ := hR i r hr
 rw [v9k hr]
 exact q5w hf
theorem j3w {k : Nat} {g : Nat → Rat} (hs : ∀ i, i < k → szQ (2 * N) 1 (g i)) (hk : k ≤ 100) (hN : N * k ≤ 1000) : j5q (j8q g 0 k) ≤ 4002 := by
 have h1 := o3q (e1q (g := g) (lo := 0) (n := k) fun i _ hi => hs i (by omega)) (by omega)
 have e : 2 * N * k = 2 * (N * k) := Nat.mul_assoc _ _ _
 omega
theorem z8x (h : j7q P = true) {i v n : Nat} (hn : (n : Int) = P.vars) (hv : v < n) : ∀ r, P.rows[i]? = some r → v < r.1.length := fun r hr => by
 have := r2q h hr
 omega

theorem q5x (h : y9q N w v P) (hy : z1q N w x ys) (hg : z1q N w t goal) (hrb : j7q P = true) (hgl : (goal.length : Int) = P.vars) (hN : N ≤ 50) (hr100 : P.rows.length ≤ 100) (hv100 : P.vars ≤ 100) (hNn : N * P.rows.length ≤ 1000) :
  Calls Tryz.prog 159 #[v, x, t] w fun e w' => e = .returned (.bool (x1q P ys goal)) ∧ Below w.heap.size w w' := by
 have HP := hdd h
 have HY := hdd hy
 have HG := hdd hg
 have HRB := hdd hrb
 obtain ⟨fa, fc, ga, gc, ra, rc, rfl, hz1, hz2, hB, -, hR⟩ := h
 have HBO := hdd hB
 have HR := hdd hR
 obtain ⟨ya, yc, rfl, -⟩ := hy
 obtain ⟨ta, tc, rfl, -⟩ := hg
 obtain ⟨n, hn⟩ := qx (goal.length)
 obtain ⟨rn, hrn⟩ := qx (P.rows.length)
 obtain ⟨yn, hyn⟩ := qx (ys.length)
 obtain ⟨gn, hgn⟩ := qx (P.goal.length)
 have hv : P.vars = (n : Int) := by omega
 have hfl : P.free.length = n := by have := (j2q hrb).2.1; omega
 have hn100 : n ≤ 100 := by omega
 rw [hv, hfl, ← hgn, ← hrn] at HP ⊢
 rw [← hn] at HG ⊢
 rw [← hyn] at HY ⊢
 rw [← hrn] at hr100
 have HNN : Hi (N * rn ≤ 1000) := hdd (by rw [hrn]; exact hNn)
 have HEQ := hdd (And.intro hrn (And.intro hyn (And.intro hn (And.intro hv hfl))))
 obtain ⟨w1, hw1, HB1, HX1⟩ := al1 w #[.int .i64 (n : Int), .slice fa n fc, .slice ga gn gc, .slice ra rn rc] 26
 have HW1 := hdd hw1.symm
 clear hw1 hB hR hNn hrb hgl hv hfl hn hrn hyn hgn hz1 hz2 hv100
 have RX := hdd (q1q HX1.o)
 have hb1 := Below.refl w1.heap.size w1
 obtain ⟨x0, x1, x2, x3⟩ := qz RX.o hb1
 by_cases hl : yn = rn
 case neg =>
  have t0 : (yn != rn) = true := by simpa using hl
  have t0' : ((yn : Int) != (rn : Int)) = true := by simp; omega
  have HE : Hi (x1q P ys goal = false) := hdd (by
   unfold x1q
   have e : decide (ys.length = P.rows.length) = false := by rw [← HEQ.o.1, ← HEQ.o.2.1]; simpa using hl
   rw [e]; rfl)
  clear hl
  go_enter Tryz.func159, Tryz.ntmps159
  go_wp2_with fail
  rw [HW1.o]
  go_ret
  exact ⟨by rw [HE.o]; first | done | rfl, HB1.o⟩
 have t0 : (yn != rn) = false := by simpa using hl
 have t0' : ((yn : Int) != (rn : Int)) = false := by simp; omega
 have HYR := hdd hl
 have HLEN : Hi (decide (ys.length = P.rows.length) = true) := hdd (by rw [← HEQ.o.1, ← HEQ.o.2.1]; simpa using hl)
 clear hl
 go_enter Tryz.func159, Tryz.ntmps159
 go_wp2_with fail
 rw [HW1.o]
 go_loopw [20] (fun iv wr => ∃ i : Nat, i ≤ yn ∧ iv = .int .i64 i ∧ Hi (∀ j, j < i → ¬ (¬ sQ P j = 0 ∧ z7q (q9q ys j) 0 = sQ P j)) ∧ Hi (Below w1.heap.size w1 wr)) (fun iv _ => yn - (intOf iv).toNat)
 case atStart => exact ⟨0, Nat.zero_le _, rfl, hdd (fun j h => absurd h (Nat.not_lt_zero j)), hdd hb1⟩
 case round =>
  obtain ⟨i, hi, rfl, hd, hZ⟩ := hrel
  obtain ⟨wo, rfl⟩ : ∃ wo : World, wo = wr := ⟨_, rfl⟩
  by_cases hin : i < yn
  ·
   have t1 : decide ((i : Int) < (yn : Int)) = true := by simp; omega
   obtain ⟨q, B, off, b, a1, n1, c1, a2, n2, c2, hq, ha, hc, hf⟩ := HY.o.at hin
   subst ha
   obtain ⟨k0, k1, k2⟩ := hc wo (q0q HB1.o hZ.o)
   have HQ := hdd (v9q hq)
   have HF := hdd hf
   have hirn : i < rn := by have := HYR.o; omega
   obtain ⟨r, Br, offr, ar, cr, br, ar2, nr2, cr2, ar3, nr3, cr3, hr, har, -, -, hs3, hs4, hcr⟩ := HR.o.at (i := i) (by have := HEQ.o; omega)
   subst har
   obtain ⟨sn, hsn⟩ := qx (r.2.1)
   rw [← hsn] at hs3 hs4
   have HSQ : Hi (sQ P i = sn) := hdd (by rw [x9k hr, hsn])
   have HCR := hdd (fun w' hb => (hcr w' hb).2.1)
   rw [← hsn] at HCR
   clear hc hf hq hr hcr hsn
   go_wp2_with ((with_reducible refine j9q ?_); refine q6q rfl _ _ _ rfl wo.heap.size rfl _ rfl _ _ (heap_alloc_new _ _) v0q rfl x3q ?_; intro w4 h4 hon4; refine y0q ?_)
   have hb4 : Below wo.heap.size wo w4 := q4q ((qb).alloc qm _) hon4 qm
   have HZ4 := hdd (q0q hZ.o hb4)
   have y0 := q1q h4 0 _ rfl _ qb
   have y1 := q1q h4 1 _ rfl _ qb
   have y2 := q1q h4 2 _ rfl _ qb
   have x3 := RX.o 3 _ rfl _ HZ4.o
   have f1 := HCR.o w4 (q0q HB1.o HZ4.o)
   clear h4 hon4 hb4 k0 k1 k2
   refine z2q ?_
   have HSTEP : Hi ((sn = 0 ∨ ¬ z7q q 0 = sn) → ∀ j, j < i + 1 → ¬ (¬ sQ P j = 0 ∧ z7q (q9q ys j) 0 = sQ P j)) := hdd (fun h9 j hj => by
    by_cases e : j = i
    ·
     subst e
     rw [HSQ.o, HQ.o]
     rintro ⟨h8, h7⟩
     rcases h9 with h9 | h9
     ·
      exact h8 h9
     ·
      exact h9 h7
    ·
     exact hd.o j (by omega))
   by_cases hs0 : sn = 0
   ·
    have t2 : (sn != 0) = false := by simpa using hs0
    have HD := hdd (HSTEP.o (Or.inl hs0))
    clear hs0
    go_wp2_with fail
    go_roundw
    case rel => exact ⟨i + 1, by omega, by go_num, HD, HZ4⟩
    case measure => simp [intOf]; omega
   ·
    have t2 : (sn != 0) = true := by simpa using hs0
    have K := hdd (j1k (HF.o.inF.below (q0q HB1.o HZ4.o)))
    obtain ⟨o, ho⟩ := qx (z7q q 0)
    rw [← ho] at K
    by_cases h0 : o = sn
    ·
     have t3 : (o == sn) = true := by simpa using h0
     have HE : Hi (x1q P ys goal = false) := hdd (by
      have e : q0h P ys = false := by
       unfold q0h
       rw [decide_eq_false_iff_not]
       intro h
       exact h i (by have := HEQ.o; omega) ⟨by rw [HSQ.o]; exact hs0, by rw [HQ.o, HSQ.o, ← ho]; exact h0⟩
      unfold x1q; rw [e]; simp)
     clear h0 hs0 ho
     go_wp2_with fail
     refine K.o.mono ?_
     rintro en5 w5 ⟨rfl, hb5⟩
     go_wp2_with fail
     go_ret
     exact ⟨by rw [HE.o]; first | done | rfl, q0q HB1.o (q0q HZ4.o hb5)⟩
    ·
     have t3 : (o == sn) = false := by simpa using h0
     have HD := hdd (HSTEP.o (Or.inr (by rw [← ho]; exact h0)))
     clear h0 hs0 ho
     go_wp2_with fail
     refine K.o.mono ?_
     rintro en5 w5 ⟨rfl, hb5⟩
     have HZ5 := hdd (q0q HZ4.o hb5)
     go_wp2_with fail
     go_roundw
     case rel => exact ⟨i + 1, by omega, by go_num, HD, HZ5⟩
     case measure => simp [intOf]; omega
  ·
   have t1 : decide ((i : Int) < (yn : Int)) = false := by simp; omega
   have HSY : Hi (q0h P ys = true) := hdd (by
    unfold q0h
    rw [decide_eq_true_eq]
    intro j hj
    exact hd.o j (by have := HEQ.o; omega))
   have x0 := RX.o 0 _ rfl _ hZ.o
   go_wp2_with fail
   go_loopw [42] (fun iv wr => ∃ v : Nat, v ≤ n ∧ iv = .int .i64 v ∧ Hi (∀ j, j < v → e4q P ys goal j) ∧ Hi (Below w1.heap.size w1 wr)) (fun iv _ => n - (intOf iv).toNat)
   case atStart => exact ⟨0, Nat.zero_le _, rfl, hdd (fun j h => absurd h (Nat.not_lt_zero j)), hZ⟩
   case round =>
    obtain ⟨v, hvn, rfl, hdv, hZv⟩ := hrel
    obtain ⟨wv, rfl⟩ : ∃ wv : World, wv = wr := ⟨_, rfl⟩
    by_cases hvl : v < n
    ·
     have t2 : decide ((v : Int) < (n : Int)) = true := by simp; omega
     obtain ⟨q, B, off, b, a1, n1, c1, a2, n2, c2, hq, ha, hc, hf⟩ := HG.o.at hvl
     subst ha
     have HW := hdd (q0q HB1.o hZv.o)
     have HCG := hdd (fun w' (hb : Below wv.heap.size wv w') => hc w' (q0q HW.o hb))
     have HQ := hdd (v9q hq)
     have HF := hdd hf
     obtain ⟨D, hD⟩ := qx (q9k P v ys)
     have HD0 := hdd hD
     have HLD : Hi (j5q D ≤ 4002) := hdd (by
      rw [hD]
      unfold q9k
      refine j3w (N := N) (fun i hi => ?_) (by have := HEQ.o; have := HYR.o; omega) (by have h8 := HNN.o; rw [← HEQ.o.2.1, HYR.o]; exact h8)
      exact q7j (x9w HP.o (by have := HEQ.o; have := HYR.o; omega) (z8x HRB.o HEQ.o.2.2.2.1.symm hvl)) (q7z HY.o hi))
     obtain ⟨o, ho⟩ := qx (z7q D q)
     have HO := hdd ho
     have KCO := hdd (fun w' => x3k (w := w') (v := (v : Int)) (ra := ra) (rn := rn) (rc := rc))
     have KP : Hi (∀ w' g g2, Below wv.heap.size wv w' → w'.cell? ⟨g, 0, none⟩ = some (.slice ra rn rc) → w'.cell? ⟨g2, 0, none⟩ = some (.int .i64 (v : Nat)) → Calls Tryz.prog 70 #[.func (.func 61) #[] #[.pointer (some ⟨g, 0, none⟩), .pointer (some ⟨g2, 0, none⟩)], .slice ya yn yc] w' (h0q w' D)) := hdd (fun w' g g2 hb hg1 hg2 => by
      have h9 := u8h (N := N) (w := w') (p := g) (p2 := g2) (n' := yn) (g := aQ P v) (qs := ys) (fun i w'' hi hb9 => u5v (w0 := w') hb9 (q3q hb9 hg1) (q3q hb9 hg2) (HR.o.below (q0q HW.o hb)) (by have := HYR.o; omega) HEQ.o.1 (z8x HRB.o HEQ.o.2.2.2.1.symm hvl)) (HY.o.below (q0q HW.o hb)) hN (by have := HYR.o; omega) (by rw [HYR.o]; exact HNN.o)
      have e9 : j8q (fun i => aQ P v i * q9q ys i) 0 yn = D := by rw [HD0.o]; unfold q9k; rw [HEQ.o.2.1]
      rw [e9] at h9
      exact h9)
     have KC := hdd (fun w' y (hb : Below wv.heap.size wv w') (hy : j3q w' y D) => z4j (w := w') (hy.inF (by have := HLD.o; omega)) (HF.o.inF.below (q0q HW.o hb)))
     rw [← ho] at KC
     clear hc hf hq hD ho
     obtain ⟨fb, Bf, of, hfb, hfa, hcf⟩ := HBO.o.at (i := v) (by have := HEQ.o; omega)
     subst hfa
     have HFB := hdd hfb
     have HCF := hdd (fun w' (hb : Below w1.heap.size w1 w') => hcf w' (q0q HB1.o hb))
     clear hfb hcf
     have x3 := RX.o 3 _ rfl _ hZv.o
     have hz0 : Below wv.heap.size wv wv.drew := q5q qb 1
     have RXV := hdd (fun w' (hb : Below wv.heap.size wv w') => RX.o 3 _ rfl w' (q0q hZv.o hb))
     go_wp2_with fail
     go_region_held3 (fun w' => w'.cell? ⟨w.heap.size, 3, none⟩ = some (.slice ra rn rc) ∧ w'.cell? ⟨B, off + v * 3, none⟩ = some (.bool b) ∧ w'.cell? ⟨B, off + v * 3 + 1, none⟩ = some (.slice a1 n1 c1) ∧ w'.cell? ⟨B, off + v * 3 + 2, none⟩ = some (.slice a2 n2 c2))
      (((try dsimp only); refine ⟨?_, ?_, ?_, ?_⟩ <;> (first | exact RXV.o _ (by assumption) | exact (HCG.o _ (by assumption)).1 | exact (HCG.o _ (by assumption)).2.1 | exact (HCG.o _ (by assumption)).2.2)))
      (first | (go_at_call 28; refine (KCO.o _).mono ?_; rintro en5 w5 ⟨⟨g5, h5, rfl, hg5, hh5⟩, hb5⟩; have hz5 := q0q hz0 hb5) | (go_at_call 70; refine (KP.o _ _ _ hz5 hg5 hh5).mono ?_; rintro en6 w6 ⟨⟨v6, rfl, f6⟩, hb6⟩; obtain ⟨a6, n6, c6, i6, j6, k6, hq6⟩ := q8q f6; subst hq6; have hz6 := q0q hz5 hb6) | (go_at_call 103; refine (KC.o _ _ hz6 f6).mono ?_; rintro en7 w7 ⟨rfl, hb7⟩; have hz7 := q0q hz6 hb7))
     all_goals
      have HZ7 := hdd (q0q hZv.o hz7)
      clear hz0 hz5 hz6 hz7 hb5 hb6 hb7 f6 hg5 hh5 x3
      have x1 := RX.o 1 _ rfl _ HZ7.o
      have f0 := HCF.o _ HZ7.o
      have HNOT : Hi (¬ e4q P ys goal v → x1q P ys goal = false) := hdd (fun h9 => by
       have e : f6q P ys goal = false := by
        unfold f6q
        rw [decide_eq_false_iff_not]
        intro h
        exact h9 (h v (by have := HEQ.o; omega))
       unfold x1q; rw [e]; simp)
      have HOKC : Hi (e4q P ys goal v ↔ (0 ≤ o ∧ (0 < o → fb = false))) := hdd (by
       unfold e4q
       rw [HQ.o, ← HD0.o, ← HO.o, HFB.o]
       simp)
      have HYES : Hi (e4q P ys goal v → ∀ j, j < v + 1 → e4q P ys goal j) := hdd (fun h9 j hj => by
       by_cases e : j = v
       ·
        subst e; exact h9
       ·
        exact hdv.o j (by omega))
      rcases (by omega : o < 0 ∨ o = 0 ∨ 0 < o) with h8 | h8 | h8
      ·
       have u1 : decide (o < 0) = true := by simpa using h8
       have HE := hdd (HNOT.o (fun h => by have := HOKC.o.1 h; omega))
       clear h8
       go_wp2_with fail
       go_ret
       exact ⟨by rw [HE.o]; first | done | rfl, q0q HB1.o HZ7.o⟩
      ·
       subst h8
       have HDV := hdd (HYES.o (HOKC.o.2 ⟨by omega, fun h => by omega⟩))
       go_wp2_with fail
       go_roundw
       case rel => exact ⟨v + 1, by omega, by go_num, HDV, HZ7⟩
       case measure => simp [intOf]; omega
      ·
       have u1 : decide (o < 0) = false := by simp; omega
       have u2 : decide (0 < o) = true := by simpa using h8
       cases fb with
       | true =>
        have HE := hdd (HNOT.o (fun h => by have := (HOKC.o.1 h).2 h8; cases this))
        clear h8
        go_wp2_with fail
        go_ret
        exact ⟨by rw [HE.o]; first | done | rfl, q0q HB1.o HZ7.o⟩
       | false =>
        have HDV := hdd (HYES.o (HOKC.o.2 ⟨by omega, fun _ => rfl⟩))
        clear h8
        go_wp2_with fail
        go_roundw
        case rel => exact ⟨v + 1, by omega, by go_num, HDV, HZ7⟩
        case measure => simp [intOf]; omega
    ·
     have t2 : decide ((v : Int) < (n : Int)) = false := by simp; omega
     have HE : Hi (x1q P ys goal = true) := hdd (by
      have e : f6q P ys goal = true := by
       unfold f6q
       rw [decide_eq_true_eq]
       intro j hj
       exact hdv.o j (by have := HEQ.o; omega)
      unfold x1q; rw [HLEN.o, HSY.o, e]; rfl)
     go_wp2_with fail
     go_ret
     exact ⟨by rw [HE.o]; first | done | rfl, q0q HB1.o hZv.o⟩
theorem q2j (h : j7q P = true) {i : Nat} {r : List Rat × Int × Rat} (hr : P.rows[i]? = some r) : -1 ≤ r.2.1 ∧ r.2.1 ≤ 1 := by
 unfold j7q at h
 simp only [Bool.and_eq_true] at h
 have h9 := (List.all_eq_true.1 h.2) r (List.mem_of_getElem? hr)
 simp only [b2q, decide_eq_true_eq] at h9
 exact h9.2
def b4q (P : Pm) (ys : List Rat) : Bool := decide (ys.length = P.rows.length) && q0h P ys

theorem q6k (h : y9q N w v P) (hy : z1q N w x ys) (hrb : j7q P = true) (hN : N ≤ 50) (hr100 : P.rows.length ≤ 100) (hv100 : P.vars ≤ 100) (hNn : N * P.rows.length ≤ 1000) :
  Calls Tryz.prog 110 #[v, x] w fun e w' => e = .returned (.bool (b4q P ys)) ∧ Below w.heap.size w w' := by
 have HP := hdd h
 have HY := hdd hy

 have HRB := hdd hrb
 obtain ⟨fa, fc, ga, gc, ra, rc, rfl, hz1, hz2, hB, -, hR⟩ := h
 have HBO := hdd hB
 have HR := hdd hR
 obtain ⟨ya, yc, rfl, -⟩ := hy
 obtain ⟨n, hn⟩ := qx (P.free.length)
 obtain ⟨rn, hrn⟩ := qx (P.rows.length)
 obtain ⟨yn, hyn⟩ := qx (ys.length)
 obtain ⟨gn, hgn⟩ := qx (P.goal.length)
 have hv : P.vars = (n : Int) := (by have := (j2q hrb).2.1; omega)
 have hfl : P.free.length = n := by have := (j2q hrb).2.1; omega
 have hn100 : n ≤ 100 := by omega
 rw [hv, hfl, ← hgn, ← hrn] at HP ⊢
 rw [← hyn] at HY ⊢
 rw [← hrn] at hr100
 have HNN : Hi (N * rn ≤ 1000) := hdd (by rw [hrn]; exact hNn)
 have HEQ := hdd (And.intro hrn (And.intro hyn (And.intro hn (And.intro hv hfl))))
 obtain ⟨w1, hw1, HB1, HX1⟩ := al1 w #[.int .i64 (n : Int), .slice fa n fc, .slice ga gn gc, .slice ra rn rc] 26
 have HW1 := hdd hw1.symm
 clear hw1 hB hR hNn hrb  hv hfl hn hrn hyn hgn hz1 hz2 hv100
 have RX := hdd (q1q HX1.o)
 have hb1 := Below.refl w1.heap.size w1
 obtain ⟨x0, x1, x2, x3⟩ := qz RX.o hb1
 by_cases hl : yn = rn
 case neg =>
  have t0 : (yn != rn) = true := by simpa using hl
  have t0' : ((yn : Int) != (rn : Int)) = true := by simp; omega
  have HE : Hi (b4q P ys = false) := hdd (by
   unfold b4q
   have e : decide (ys.length = P.rows.length) = false := by rw [← HEQ.o.1, ← HEQ.o.2.1]; simpa using hl
   rw [e]; rfl)
  clear hl
  go_enter Tryz.func110, Tryz.ntmps110
  go_wp2_with fail
  rw [HW1.o]
  go_ret
  exact ⟨by rw [HE.o]; first | done | rfl, HB1.o⟩
 have t0 : (yn != rn) = false := by simpa using hl
 have t0' : ((yn : Int) != (rn : Int)) = false := by simp; omega
 have HYR := hdd hl
 have HLEN : Hi (decide (ys.length = P.rows.length) = true) := hdd (by rw [← HEQ.o.1, ← HEQ.o.2.1]; simpa using hl)
 clear hl
 go_enter Tryz.func110, Tryz.ntmps110
 go_wp2_with fail
 rw [HW1.o]
 go_loopw [17] (fun iv wr => ∃ i : Nat, i ≤ rn ∧ iv = .int .i64 i ∧ Hi (∀ j, j < i → ¬ (¬ sQ P j = 0 ∧ z7q (q9q ys j) 0 = sQ P j)) ∧ Hi (Below w1.heap.size w1 wr)) (fun iv _ => rn - (intOf iv).toNat)
 case atStart => exact ⟨0, Nat.zero_le _, rfl, hdd (fun j h => absurd h (Nat.not_lt_zero j)), hdd hb1⟩
 case round =>
  obtain ⟨i, hi, rfl, hd, hZ⟩ := hrel
  obtain ⟨wo, rfl⟩ : ∃ wo : World, wo = wr := ⟨_, rfl⟩
  by_cases hin : i < rn
  ·
   have t1 : decide ((i : Int) < (rn : Int)) = true := by simp; omega
   obtain ⟨r, B, off, a1, c1, b, a2, n2, c2, a3, n3, c3, hr, ha, hlr, hfr, hs3, hs4, hcr⟩ := HR.o.at (i := i) (by have := HEQ.o; omega)
   subst ha
   obtain ⟨f0, f1, f2, f3, f4⟩ := hcr wo (q0q HB1.o hZ.o)
   have HRI := hdd hr
   obtain ⟨q, B', off', b', a4, n4, c4, a5, n5, c5, hq, ha', hc, hf⟩ := HY.o.at (i := i) (by have := HYR.o; omega)
   subst ha'
   have HQ := hdd (v9q hq)
   have HF := hdd hf
   have hsr := q2j HRB.o hr
   obtain ⟨sn, hsn⟩ := qx (r.2.1)
   have HSQ : Hi (sQ P i = sn) := hdd (by rw [x9k hr, hsn])
   rw [← hsn] at f1 hsr
   obtain ⟨rl, hrl⟩ := qx (r.1.length)
   rw [← hrl] at f0
   have HC := hdd (fun w' (hb : Below wo.heap.size wo w') => hc w' (q0q (q0q HB1.o hZ.o) hb))
   have hin2 : i < yn := by have := HYR.o; omega
   clear hcr hr hsn hrl hlr hfr hf hq hc hs3 hs4
   go_wp2_with ((with_reducible refine j9q ?_); refine q6q rfl _ _ _ rfl wo.heap.size rfl _ rfl _ _ (heap_alloc_new _ _) w0q rfl f0q ?_; intro w4 h4 hon4; refine y0q ?_)
   have hb4 : Below wo.heap.size wo w4 := q4q ((qb).alloc qm _) hon4 qm
   have HB4 := hdd (q0q hZ.o hb4)
   have RY := hdd (q1q h4)
   obtain ⟨k0, k1, k2⟩ := HC.o _ hb4
   have K := hdd (z8k (HF.o.below (q0q HB1.o HB4.o)) (by omega))
   have hc9 := m8q q 0
   obtain ⟨o, ho⟩ := qx (z7q q 0)
   rw [← ho] at K hc9
   obtain ⟨ho1, ho2⟩ := hc9
   have HO := hdd ho
   clear h4 hon4 hb4 f0 f1 f2 f3 f4 ho
   refine z2q ?_
   go_wp2_with fail
   refine K.o.mono ?_
   rintro en5 w5 ⟨rfl, hb5⟩
   have HZ5 := hdd (q0q HB4.o hb5)
   have y0 := RY.o 0 _ rfl _ hb5
   have y1 := RY.o 1 _ rfl _ hb5
   have y2 := RY.o 2 _ rfl _ hb5
   have y3 := RY.o 3 _ rfl _ hb5
   have y4 := RY.o 4 _ rfl _ hb5
   have HSTEP : Hi ((sn = 0 ∨ ¬ o = sn) → ∀ j, j < i + 1 → ¬ (¬ sQ P j = 0 ∧ z7q (q9q ys j) 0 = sQ P j)) := hdd (fun h9 j hj => by
    by_cases e : j = i
    ·
     subst e
     rw [HSQ.o, HQ.o, ← HO.o]
     rintro ⟨h8, h7⟩
     rcases h9 with h9 | h9
     ·
      exact h8 h9
     ·
      exact h9 h7
    ·
     exact hd.o j (by omega))
   have HBAD : Hi ((¬ sn = 0 ∧ o = sn) → b4q P ys = false) := hdd (fun h9 => by
    have e : q0h P ys = false := by
     unfold q0h
     rw [decide_eq_false_iff_not]
     intro h
     exact h i (by have := HEQ.o; omega) ⟨by rw [HSQ.o]; exact h9.1, by rw [HQ.o, HSQ.o, ← HO.o]; exact h9.2⟩
    unfold b4q; rw [e]; simp)
   clear hb5 k0 k1 k2
   rcases (show (sn = -1 ∧ o < 0) ∨ (sn = -1 ∧ ¬ o < 0) ∨ sn = 0 ∨ (sn = 1 ∧ 0 < o) ∨ (sn = 1 ∧ ¬ 0 < o) by omega) with ⟨h7, h8⟩ | ⟨h7, h8⟩ | h7 | ⟨h7, h8⟩ | ⟨h7, h8⟩
   ·
    have u : decide (o < 0) = true := by simpa using h8
    have HE := hdd (HBAD.o ⟨by omega, by omega⟩)
    subst h7
    clear h8
    go_wp2_with fail
    go_ret
    exact ⟨by rw [HE.o]; first | done | rfl, q0q HB1.o HZ5.o⟩
   ·
    have u : decide (o < 0) = false := by simpa using h8
    have HD := hdd (HSTEP.o (by omega))
    subst h7
    clear h8
    go_wp2_with fail
    go_roundw
    case rel => exact ⟨i + 1, by omega, by go_num, HD, HZ5⟩
    case measure => simp [intOf]; omega
   ·
    have HD := hdd (HSTEP.o (by omega))
    subst h7
    go_wp2_with fail
    go_roundw
    case rel => exact ⟨i + 1, by omega, by go_num, HD, HZ5⟩
    case measure => simp [intOf]; omega
   ·
    have u : decide (0 < o) = true := by simpa using h8
    have HE := hdd (HBAD.o ⟨by omega, by omega⟩)
    subst h7
    clear h8
    go_wp2_with fail
    go_ret
    exact ⟨by rw [HE.o]; first | done | rfl, q0q HB1.o HZ5.o⟩
   ·
    have u : decide (0 < o) = false := by simpa using h8
    have HD := hdd (HSTEP.o (by omega))
    subst h7
    clear h8
    go_wp2_with fail
    go_roundw
    case rel => exact ⟨i + 1, by omega, by go_num, HD, HZ5⟩
    case measure => simp [intOf]; omega
  ·
   have t1 : decide ((i : Int) < (rn : Int)) = false := by simp; omega
   have HE : Hi (b4q P ys = true) := hdd (by
    have e : q0h P ys = true := by
     unfold q0h
     rw [decide_eq_true_eq]
     intro j hj
     exact hd.o j (by have := HEQ.o; have := HYR.o; omega)
    unfold b4q; rw [HLEN.o, e]; rfl)
   go_wp2_with fail
   go_ret
   exact ⟨by rw [HE.o]; first | done | rfl, q0q HB1.o hZ.o⟩

theorem j7w (h : y9q N w v P) (hy : z1q N w x ys) (hg : z1q N w t goal) (hrb : j7q P = true) (hgl : (goal.length : Int) = P.vars) (hyl : ys.length = P.rows.length) (hN : N ≤ 50) (hr100 : P.rows.length ≤ 100) (hv100 : P.vars ≤ 100) (hNn : N * P.rows.length ≤ 1000) :
  Calls Tryz.prog 111 #[v, x, t] w fun e w' => e = .returned (.bool (f6q P ys goal)) ∧ Below w.heap.size w w' := by
 have HP := hdd h
 have HY := hdd hy
 have HG := hdd hg
 have HRB := hdd hrb
 obtain ⟨fa, fc, ga, gc, ra, rc, rfl, hz1, hz2, hB, -, hR⟩ := h
 have HBO := hdd hB
 have HR := hdd hR
 obtain ⟨ya, yc, rfl, -⟩ := hy
 obtain ⟨ta, tc, rfl, -⟩ := hg
 obtain ⟨n, hn⟩ := qx (goal.length)
 obtain ⟨rn, hrn⟩ := qx (P.rows.length)
 obtain ⟨yn, hyn⟩ := qx (ys.length)
 obtain ⟨gn, hgn⟩ := qx (P.goal.length)
 have hv : P.vars = (n : Int) := (by omega)
 have hfl : P.free.length = n := by have := (j2q hrb).2.1; omega
 have hn100 : n ≤ 100 := by omega
 rw [hv, hfl, ← hgn, ← hrn] at HP ⊢
 rw [← hn] at HG ⊢
 rw [← hyn] at HY ⊢
 rw [← hrn] at hr100
 have HNN : Hi (N * rn ≤ 1000) := hdd (by rw [hrn]; exact hNn)
 have HEQ := hdd (And.intro hrn (And.intro hyn (And.intro hn (And.intro hv hfl))))
 have HYR : Hi (yn = rn) := hdd (by omega)
 obtain ⟨w1, hw1, HB1, HX1⟩ := al1 w #[.int .i64 (n : Int), .slice fa n fc, .slice ga gn gc, .slice ra rn rc] 26
 have HW1 := hdd hw1.symm
 clear hw1 hB hR hNn hrb hgl hyl hv hfl hn hrn hyn hgn hz1 hz2 hv100
 have RX := hdd (q1q HX1.o)
 have hb1 := Below.refl w1.heap.size w1
 obtain ⟨x0, x1, x2, x3⟩ := qz RX.o hb1
 obtain ⟨U0, hU0⟩ := qx ((0 : Rat))
 have HU0 := hdd hU0
 clear hU0
 go_enter Tryz.func111, Tryz.ntmps111
 go_wp2_with fail
 rw [HW1.o]
 go_loopw [7] (fun jv wr => ∃ j : Nat, j ≤ n ∧ jv = .int .i64 j ∧ Hi (∀ x, x < j → e4q P ys goal x) ∧ Hi (Below w1.heap.size w1 wr)) (fun jv _ => n - (intOf jv).toNat)
 case atStart => exact ⟨0, Nat.zero_le _, rfl, hdd (fun j h => absurd h (Nat.not_lt_zero j)), hdd hb1⟩
 case round =>
  obtain ⟨j, hjl, rfl, hdv, hZv⟩ := hrel
  obtain ⟨wv, rfl⟩ : ∃ wv : World, wv = wr := ⟨_, rfl⟩
  have x0 := RX.o 0 _ rfl _ hZv.o
  by_cases hjn : j < n
  ·
   have t2 : decide ((j : Int) < (n : Int)) = true := by simp; omega
   obtain ⟨g, hg9⟩ : ∃ g : Nat → Rat, g = fun i => q9q ys i * aQ P j i := ⟨_, rfl⟩
   have HGG : Hi (∀ i, g i = q9q ys i * aQ P j i) := hdd (fun i => by rw [hg9])
   have HGT : Hi (∀ i q qa, q9q ys i = q → aQ P j i = qa → g i = q * qa) := hdd (fun i q qa h1 h2 => by rw [HGG.o, h1, h2])
   have HSZ : Hi (∀ i, i ≤ rn → j5q (j8q g 0 i) ≤ 4002) := hdd (fun i hi => j3w (N := N) (fun x hx => by
    rw [HGG.o]
    exact q7j (q7z HY.o (by have := HYR.o; have := HEQ.o; omega)) (x9w HP.o (by have := HEQ.o; omega) (z8x HRB.o HEQ.o.2.2.2.1.symm hjn))) (by omega) (Nat.le_trans (Nat.mul_le_mul_left N hi) HNN.o))
   have HZPRE := hZv
   clear hg9
   go_wp2_with fail
   refine (q0v).mono ?_
   rintro en2 w2 ⟨⟨v2, rfl, f2⟩, hb2⟩
   have f2' : j3q w2 v2 U0 := by rw [HU0.o]; exact f2
   obtain ⟨a2', n2', c2', i2, j2, k2', hq2⟩ := q8q f2'
   subst hq2
   have HF2 := hdd f2'
   have HZ2 := hdd (q0q HZPRE.o hb2)
   clear f2 f2' hb2
   go_wp2_with ((with_reducible refine j9q ?_); refine q6q rfl _ _ _ rfl w2.heap.size rfl _ rfl _ _ (heap_alloc_new _ _) v0q rfl x3q ?_; intro w3 h3 hon3; refine y0q ?_)
   have hb3 : Below w2.heap.size w2 w3 := q4q ((qb).alloc qm _) hon3 qm
   obtain ⟨Ba, hBa⟩ := qx (w2.heap.size)
   have hBw1 : w1.heap.size ≤ Ba := by have h9 := HZ2.o.size; omega
   have HROW3 : Hi (w3.heap[Ba]? = some (.cells #[.bool (decide (U0.num < 0)), .slice a2' n2' c2', .slice i2 j2 k2'] 43 (0, 0))) := hdd (by rw [hBa]; exact h3)
   have HF3 : Hi (j3q w3 (.agg #[Value.bool (decide (U0.num < 0)), Value.slice a2' n2' c2', Value.slice i2 j2 k2']) (j8q g 0 0)) := hdd (by
    have h7 := HF2.o.below hb3
    rw [HU0.o] at h7 ⊢
    exact h7)
   have HZ3 := hdd (q0q HZ2.o hb3)
   rw [← hBa]
   clear h3 hon3 hb3 hBa
   refine z2q ?_
   have x0 := RX.o 0 _ rfl _ HZ3.o
   have x3 := RX.o 3 _ rfl _ HZ3.o
   go_wp2_with fail
   go_loopw [22] (fun iv wr => ∃ (i : Nat) (ra' : Bool) (ab : Option Addr) (an ac : Nat) (ai : Option Addr) (aj ak : Nat), i ≤ rn ∧ iv = .int .i64 i ∧ Hi (wr.heap[Ba]? = some (.cells #[.bool ra', .slice ab an ac, .slice ai aj ak] 43 (0, 0))) ∧ Hi (j3q wr (.agg #[Value.bool ra', Value.slice ab an ac, Value.slice ai aj ak]) (j8q g 0 i)) ∧ Hi (Below w1.heap.size w1 wr)) (fun iv _ => rn - (intOf iv).toNat)
   case atStart => exact ⟨0, _, _, _, _, _, _, _, Nat.zero_le _, rfl, HROW3, HF3, HZ3⟩
   case round =>
    obtain ⟨i, ra', ab, an, ac, ai, aj, ak, hi, rfl, hrow, hfa, hZ⟩ := hrel
    obtain ⟨wo, rfl⟩ : ∃ wo : World, wo = wr := ⟨_, rfl⟩
    by_cases hin : i < rn
    ·
     have t5 : decide ((i : Int) < (rn : Int)) = true := by simp; omega
     obtain ⟨r, B, off, a1, c1, b, a2, n2, c2, a3, n3, c3, hr, ha, hlr, hfr, hs3, hs4, hcr⟩ := HR.o.at (i := i) (by have := HEQ.o; omega)
     subst ha
     obtain ⟨f0, f1, f2, f3, f4⟩ := hcr wo (q0q HB1.o hZ.o)
     have HRI := hdd hr
     obtain ⟨q, B', off', b', a4, n4, c4, a5, n5, c5, hq, ha', hc, hf⟩ := HY.o.at (i := i) (by have := HYR.o; omega)
     subst ha'
     have HQ := hdd (v9q hq)
     have HFY := hdd hf
     have hin2 : i < yn := by have := HYR.o; omega
     have HC := hdd (fun w' (hb : Below wo.heap.size wo w') => hc w' (q0q (q0q HB1.o hZ.o) hb))
     have hrl0 := r2q HRB.o hr
     obtain ⟨rl, hrl⟩ := qx (r.1.length)
     have hrln : rl = n := by have := HEQ.o; omega
     rw [← hrl] at f0 hlr
     subst hrln
     obtain ⟨qa, Ba2, offa, b6, a8, n8, c8, a9, n9, c9, hqa, haa, hca, hfe⟩ := hlr.at (i := j) hjn
     subst haa
     have HEL : Hi (aQ P j i = qa) := hdd (by rw [v9y hr]; exact v9q hqa)
     have HFE := hdd hfe
     have HCA := hdd (fun w' (hb : Below wo.heap.size wo w') => hca w' (q0q (q0q HB1.o hZ.o) hb))
     clear hqa hca hfe
     have HW := hdd (q0q HB1.o hZ.o)
     clear hcr hr hrl hlr hfr hf hq hc hs3 hs4 hrl0
     go_wp2_with ((with_reducible refine j9q ?_); refine q6q rfl _ _ _ rfl wo.heap.size rfl _ rfl _ _ (heap_alloc_new _ _) w0q rfl f0q ?_; intro w4 h4 hon4; refine y0q ?_)
     have hb4 : Below wo.heap.size wo w4 := q4q ((qb).alloc qm _) hon4 qm
     have HO4 := hdd hb4
     have HW4 := hdd (q0q HW.o hb4)
     have RY := hdd (q1q h4)
     have hb5 := Below.refl w4.heap.size w4
     have y0 := RY.o 0 _ rfl _ hb5
     have y1 := RY.o 1 _ rfl _ hb5
     have y2 := RY.o 2 _ rfl _ hb5
     have y3 := RY.o 3 _ rfl _ hb5
     have y4 := RY.o 4 _ rfl _ hb5
     obtain ⟨k0, k1, k2⟩ := HC.o _ hb4
     have HROW4 : Hi (w4.heap[Ba]? = some (.cells #[.bool ra', .slice ab an ac, .slice ai aj ak] 43 (0, 0))) := hdd ((hb4.block _ (lt_of_block hrow.o)).trans hrow.o)
     have RA := hdd (q1q HROW4.o)
     have FA := hdd (s8q HROW4.o)
     have s0 := RA.o 0 _ rfl _ hb5
     have s1 := RA.o 1 _ rfl _ hb5
     have s2 := RA.o 2 _ rfl _ hb5
     have HFA4 := hdd (hfa.o.below hb4)
     have HZ4 := hdd (q0q hZ.o hb4)
     have HNX : Hi (j8q g 0 i + g i = j8q g 0 (i + 1)) := hdd (i4q g i)
     obtain ⟨Q, hQ⟩ := qx (j8q g 0 (i + 1))
     have HQ9 := hdd hQ
     have HLQ : Hi (j5q Q ≤ 4096) := hdd (by rw [hQ]; have := HSZ.o (i + 1) (by omega); omega)
     have HLP : Hi (j5q (j8q g 0 i) ≤ 4096) := hdd (by have := HSZ.o i (by omega); omega)
     obtain ⟨M, hM⟩ : ∃ M, q * qa = M := ⟨_, rfl⟩
     have HLM : Hi (j5q M ≤ 4096) := hdd (by rw [← hM]; have h9 := j1y q qa; have := HFY.o.len; have := HFE.o.len; omega)
     have HGQ : Hi (g i = M) := hdd (by rw [← hM]; exact HGT.o i q qa HQ.o HEL.o)
     have K1 := hdd (fun w' (hb : Below w4.heap.size w4 w') => y8y (w := w') (HFY.o.below (q0q HW4.o hb)) (HFE.o.below (q0q HW4.o hb)) (by omega) hM)
     have K2 := hdd (fun w' y (hb : Below w4.heap.size w4 w') (hy : j3q w' y M) => y7k (w := w') (Q := Q) (HFA4.o.below hb) hy HLP.o HLM.o HLQ.o (by rw [← HGQ.o, HNX.o, HQ9.o]))
     obtain ⟨m0, m1, m2⟩ := HCA.o _ HO4.o
     clear h4 hon4 hb4 f0 f1 f2 f3 f4 hQ hM
     have hz0 : Below w4.heap.size w4 w4.drew := q5q hb5 1
     refine z2q ?_
     go_wp2_with fail
     go_region_with (first | (go_at_call 109; refine (K1.o _ hz0).mono ?_; rintro en6 w6 ⟨⟨r6, rfl, f6⟩, hb6⟩; obtain ⟨a6, n6, c6, i6, j6, k6, hq6⟩ := q8q f6; subst hq6; have hz6 := q0q hz0 hb6; have s0 := RA.o 0 _ rfl _ hz6; have s1 := RA.o 1 _ rfl _ hz6; have s2 := RA.o 2 _ rfl _ hz6) | (go_at_call 108; refine (K2.o _ _ hz6 f6).mono ?_; rintro en7 w7 ⟨⟨r7, rfl, f7⟩, hb7⟩; obtain ⟨a7, n7, c7, i7, j7, k7, hq7⟩ := q8q f7; subst hq7; have hz7 := q0q hz6 hb7; have s0 := RA.o 0 _ rfl _ hz7; have s1 := RA.o 1 _ rfl _ hz7; have s2 := RA.o 2 _ rfl _ hz7; have g0 := FA.o 0 _ hz7; have g1 := FA.o 1 _ hz7; have g2 := FA.o 2 _ hz7))
     all_goals
      have HROW7 : Hi (w7.heap[Ba]? = some (.cells #[.bool ra', .slice ab an ac, .slice ai aj ak] 43 (0, 0))) := hdd ((hz7.block _ (lt_of_block HROW4.o)).trans HROW4.o)
      have HON : Hi (z9q Ba w7 (d7q w7 Ba (decide (Q.num < 0)) (Value.slice a7 n7 c7) (Value.slice i7 j7 k7))) := hdd (q7q _ _ _ _ _)
      have HROW8 : Hi ((d7q w7 Ba (decide (Q.num < 0)) (Value.slice a7 n7 c7) (Value.slice i7 j7 k7)).heap[Ba]? = some (.cells #[.bool (decide (Q.num < 0)), .slice a7 n7 c7, .slice i7 j7 k7] 43 (0, 0))) := hdd (q5h HROW7.o)
      have HF8 : Hi (j3q (d7q w7 Ba (decide (Q.num < 0)) (Value.slice a7 n7 c7) (Value.slice i7 j7 k7)) (.agg #[Value.bool (decide (Q.num < 0)), Value.slice a7 n7 c7, Value.slice i7 j7 k7]) (j8q g 0 (i + 1))) := hdd (by rw [← HQ9.o]; exact f7.other HROW7.o HON.o)
      have HZ8 := hdd (q4q (q0q HZ4.o hz7) HON.o hBw1)
      go_wp2_with fail
      go_roundw
     all_goals first
      | exact ⟨i + 1, _, _, _, _, _, _, _, by omega, by go_num, HROW8, HF8, HZ8⟩
      | (simp [intOf]; omega)
    ·
     have t5 : decide ((i : Int) < (rn : Int)) = false := by simp; omega
     obtain rfl : i = rn := by omega
     have HS : Hi (j8q g 0 i = q9k P j ys) := hdd (by
      unfold q9k
      rw [← HEQ.o.2.1, HYR.o]
      exact q3w fun x hx => by rw [HGG.o, Rat.mul_comm])
     obtain ⟨D, hD⟩ := qx (j8q g 0 i)
     have HD0 : Hi (D = q9k P j ys) := hdd (by rw [hD, HS.o])
     have HLD : Hi (j5q D ≤ 4096) := hdd (by rw [hD]; have := HSZ.o i (by omega); omega)
     have HFD : Hi (j3q wo (.agg #[Value.bool ra', Value.slice ab an ac, Value.slice ai aj ak]) D) := hdd (by rw [hD]; exact hfa.o)
     clear hD
     obtain ⟨q, B, off, b, a1, n1, c1, a2, n2, c2, hq, ha, hc, hf⟩ := HG.o.at hjn
     subst ha
     have HW := hdd (q0q HB1.o hZ.o)
     have HCG := hdd (fun w' (hb : Below wo.heap.size wo w') => hc w' (q0q HW.o hb))
     have HQ := hdd (v9q hq)
     have HF := hdd hf
     obtain ⟨o, ho⟩ := qx (z7q D q)
     have HO := hdd ho
     have KC := hdd (fun w' (hb : Below wo.heap.size wo w') => j1x (w := w') (n := 4096) (m := 2 * N) ((HFD.o.below hb).sz HLD.o HLD.o) ((HF.o.below (q0q HW.o hb)).sz) (by omega) (by omega))
     rw [← ho] at KC
     clear hc hf hq ho
     obtain ⟨fb, Bf, of, hfb, hfa', hcf⟩ := HBO.o.at (i := j) (by have := HEQ.o; omega)
     subst hfa'
     have HFB := hdd hfb
     have HCF := hdd (fun w' (hb : Below w1.heap.size w1 w') => hcf w' (q0q HB1.o hb))
     clear hfb hcf
     have RA := hdd (q1q hrow.o)
     have hz0 : Below wo.heap.size wo wo.drew := q5q qb 1
     have hji : (j : Int) < (n : Int) := by omega
     have hj0 : (0 : Int) ≤ (j : Int) := by omega
     go_wp2_with fail
     go_region_held3 (fun w' => w'.cell? ⟨Ba, 0, none⟩ = some (.bool ra') ∧ w'.cell? ⟨Ba, 1, none⟩ = some (.slice ab an ac) ∧ w'.cell? ⟨Ba, 2, none⟩ = some (.slice ai aj ak) ∧ w'.cell? ⟨B, off + j * 3, none⟩ = some (.bool b) ∧ w'.cell? ⟨B, off + j * 3 + 1, none⟩ = some (.slice a1 n1 c1) ∧ w'.cell? ⟨B, off + j * 3 + 2, none⟩ = some (.slice a2 n2 c2))
      (((try dsimp only); refine ⟨?_, ?_, ?_, ?_, ?_, ?_⟩ <;> (first | exact RA.o _ _ rfl _ (by assumption) | exact (HCG.o _ (by assumption)).1 | exact (HCG.o _ (by assumption)).2.1 | exact (HCG.o _ (by assumption)).2.2)))
      (first | (go_at_call 66; refine (KC.o _ hz0).mono ?_; rintro en7 w7 ⟨rfl, hb7⟩; have hz7 := q0q hz0 hb7))
     all_goals
      have HZ7 := hdd (q0q hZ.o hz7)
      clear hz0 hz7 hb7
      have x1 := RX.o 1 _ rfl _ HZ7.o
      have f0 := HCF.o _ HZ7.o
      have HNOT : Hi (¬ e4q P ys goal j → f6q P ys goal = false) := hdd (fun h9 => by
       unfold f6q
       rw [decide_eq_false_iff_not]
       intro h
       exact h9 (h j (by have := HEQ.o; omega)))
      have HOKC : Hi (e4q P ys goal j ↔ (0 ≤ o ∧ (0 < o → fb = false))) := hdd (by
       unfold e4q
       rw [HQ.o, ← HD0.o, ← HO.o, HFB.o]
       simp)
      have HYES : Hi (e4q P ys goal j → ∀ x, x < j + 1 → e4q P ys goal x) := hdd (fun h9 x hx => by
       by_cases e : x = j
       ·
        subst e; exact h9
       ·
        exact hdv.o x (by omega))
      rcases (by omega : o < 0 ∨ o = 0 ∨ 0 < o) with h8 | h8 | h8
      ·
       have u1 : decide (o < 0) = true := by simpa using h8
       have HE := hdd (HNOT.o (fun h => by have := HOKC.o.1 h; omega))
       clear h8
       go_wp2_with fail
       go_ret
       exact ⟨by rw [HE.o]; first | done | rfl, q0q HB1.o HZ7.o⟩
      ·
       subst h8
       have HDV := hdd (HYES.o (HOKC.o.2 ⟨by omega, fun h => by omega⟩))
       cases fb with
       | true =>
        go_wp2_with fail
        go_roundw
        case rel => exact ⟨j + 1, by omega, by go_num, HDV, HZ7⟩
        case measure => simp [intOf]; omega
       | false =>
        go_wp2_with fail
        go_roundw
        case rel => exact ⟨j + 1, by omega, by go_num, HDV, HZ7⟩
        case measure => simp [intOf]; omega
      ·
       have u1 : decide (o < 0) = false := by simp; omega
       have u2 : (o != 0) = true := by simp; omega
       cases fb with
       | true =>
        have HE := hdd (HNOT.o (fun h => by have := (HOKC.o.1 h).2 h8; cases this))
        clear h8
        go_wp2_with fail
        go_ret
        exact ⟨by rw [HE.o]; first | done | rfl, q0q HB1.o HZ7.o⟩
       | false =>
        have HDV := hdd (HYES.o (HOKC.o.2 ⟨by omega, fun _ => rfl⟩))
        clear h8
        go_wp2_with fail
        go_roundw
        case rel => exact ⟨j + 1, by omega, by go_num, HDV, HZ7⟩
        case measure => simp [intOf]; omega
  ·
   have t2 : decide ((j : Int) < (n : Int)) = false := by simp; omega
   have HE : Hi (f6q P ys goal = true) := hdd (by
    unfold f6q
    rw [decide_eq_true_eq]
    intro x hx
    exact hdv.o x (by have := HEQ.o; omega))
   go_wp2_with fail
   go_ret
   exact ⟨by rw [HE.o]; first | done | rfl, q0q HB1.o hZv.o⟩
end Go.Proofs.YtkkbmlkpgknhgaaGreat
