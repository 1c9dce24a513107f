/- Several texts in one: Lw, D4. -/
import Derived.Test.YtimbojhmjadgkaaZ32
import Derived.Maps.AppendAt
import Derived.Test.YtimbojhmjadgkaaZ34
import Derived.Deep.DrawnRows
/- Lists of a call's own whose blocks hold no words: what is appended to them changes no words, wherever the words lie. -/
namespace Go.Proofs.Ytimbojhmjadgkaa
open Go.RowKit

/-- No word. -/
def NoU (u : Value) : Prop := ∀ k : Nat, u ≠ U k
/-- A slice whose block holds no words. -/
def Clean (w : World) (v : Value) : Prop := ∀ g cs e fr, v.ownBlock = some g → w.heap[g]? = some (.cells cs e fr) → ∀ u ∈ cs.toList, NoU u
theorem zeros_in {z : Array Value} {n : Nat} {u : Value} (hs : 0 < z.size) (h : u ∈ (Builtin.zeroCells z n).toList) : u ∈ z.toList := by
  simp only [Builtin.zeroCells, Array.toList_map, List.mem_map, Array.mem_toList_iff] at h
  obtain ⟨i, -, rfl⟩ := h
  rw [getElem!_pos z (i % z.size) (Nat.mod_lt _ hs)]
  exact Array.mem_toList_iff.2 (Array.getElem_mem _)

theorem run_append_clean {P : Program} {w : World} (base : Nat) (t ty e : TypeId) (i : TypeInfo) (z : Value) (size bytes : Nat) (ht : P.underlying t = some (.slice e)) (hi : P.info? e = some i) (hz : i.zero = some z)
    (hsize : i.size = size) (hby : i.bytes = bytes) (hzs : z.cells.size = size) (hsz : 0 < size)
    (v : Value) (n : Nat) (xs : List Value) (hown : w.ownsRow base e size v n xs)
    (a : Addr) (m c : Nat) (news : List Value) (hl : news.length = m * size) (hnews : ∀ j u, news[j]? = some u → w.cell? (a.add j) = some u) (h1 : ∀ u ∈ news, u.oneCell' = true)
    (h63 : n + m ≤ maxLen) (hbytes : (n + m) * bytes ≤ 140737488355328) (hbase : base ≤ w.heap.size) (hm : 0 < m)
    (hzc : ∀ u ∈ z.cells.toList, NoU u) (hnc : ∀ u ∈ news, NoU u) (hcl : Clean w v) :
    ∃ v' w', (Builtin.append_ #[t, t] ty #[v, .slice (some a) m c]).run P w = .ok v' w' ∧ w'.ownsRow base e size v' (n + m) (xs ++ news) ∧ w.grownBy w' v.ownBlock ∧
      (v'.ownBlock = v.ownBlock ∨ v'.ownBlock = some w.heap.size) ∧ Clean w' v' := by
  obtain ⟨v', w', hr, ho, hg, -, hat⟩ := run_append_own_at (P := P) (w := w) base t ty e i z size bytes ht hi hz hsize hby hzs hsz v n xs hown a m c news hl hnews h1 h63 hbytes hbase
  refine ⟨v', w', hr, ho, hg, hat, ?_⟩
  have hsmall : n + m ≤ 9223372036854775807 := by simp only [maxLen] at h63; omega
  have fresh : ∀ (cs : Array Value) (k : Nat), (∀ u ∈ cs.toList, NoU u) → v' = .slice (some ⟨w.heap.size, 0, none⟩) (n + m) k → w' = w.drew.alloc (.cells cs e) → Clean w' v' := by
    rintro cs k hcs rfl rfl g cs' e' fr' hb hh u hu
    simp only [Value.ownBlock, Option.some.injEq] at hb
    subst hb
    have h9 : (w.drew.alloc (.cells cs e)).heap[w.heap.size]? = some (.cells cs e (0, 0)) := heap_alloc_new w.drew _
    rw [h9] at hh
    simp only [Option.some.injEq, Obj.cells.injEq] at hh
    obtain ⟨rfl, -, -⟩ := hh
    exact hcs u hu
  have hzs0 : 0 < z.cells.size := by omega
  rcases hown.2 with ⟨rfl, rfl⟩ | ⟨g, cap, cur, rfl, hbg, hh, hnc', hcm, hcs, htake⟩
  · have hx : xs = [] := List.eq_nil_of_length_eq_zero (by simpa using hown.1)
    subst hx
    have hr2 := run_append_nil (P := P) (w := w) t ty e i z ht hi hz a m c news (by rw [hsize]; exact hl) hnews hm (by omega) (by rw [hby]; have hb := hbytes; simp only [Nat.zero_add] at hb; omega)
    rw [hr2] at hr
    simp only [Result.ok.injEq] at hr
    refine fresh _ _ ?_ (by rw [Nat.zero_add]; exact hr.1.symm) hr.2.symm
    intro u hu
    rw [Array.toList_append, List.mem_append] at hu
    rcases hu with hu | hu
    · exact hnc u (by simpa using hu)
    · exact hzc u (zeros_in hzs0 hu)
  · have hcur : ∀ u ∈ cur.toList, NoU u := hcl g cur e (0, 0) rfl hh
    by_cases hroom : n + m ≤ cap
    · have hfit : n * i.size + news.length ≤ cur.size := by rw [hl, hcs, hsize, ← Nat.add_mul]; exact Nat.mul_le_mul_right _ hroom
      have hr2 := run_append_room (P := P) (w := w) t ty e i ht hi g n cap cur hh a m c news (by rw [hsize]; exact hl) hnews h1 hroom hfit
      rw [hr2] at hr
      simp only [Result.ok.injEq] at hr
      obtain ⟨rfl, rfl⟩ := hr
      intro g' cs' e' fr' hb hh' u hu
      simp only [Value.ownBlock, Option.some.injEq] at hb
      subst hb
      rw [setRow_heap w g cur _ e _ hh] at hh'
      simp only [Option.some.injEq, Obj.cells.injEq] at hh'
      obtain ⟨rfl, -, -⟩ := hh'
      simp only [List.mem_append] at hu
      rcases hu with (hu | hu) | hu
      · exact hcur u (List.mem_of_mem_take hu)
      · exact hnc u hu
      · exact hcur u (List.mem_of_mem_drop hu)
    · have holds : ∀ j u, xs[j]? = some u → w.cell? ((⟨g, 0, none⟩ : Addr).add j) = some u := hown.cells (g := g) rfl
      have hr2 := run_append_grow (P := P) (w := w) t ty e i z ht hi hz ⟨g, 0, none⟩ n cap xs (by rw [hsize]; exact hown.1) holds a m c news (by rw [hsize]; exact hl) hnews (by omega) (by omega) (by rw [hby]; exact growslice_fits (by omega) hbytes)
      rw [hr2] at hr
      simp only [Result.ok.injEq] at hr
      refine fresh _ _ ?_ hr.1.symm hr.2.symm
      intro u hu
      rw [Array.toList_append, Array.toList_append, List.mem_append, List.mem_append] at hu
      rcases hu with (hu | hu) | hu
      · rw [← htake] at hu
        exact hcur u (List.mem_of_mem_take (by simpa using hu))
      · exact hnc u (by simpa using hu)
      · exact hzc u (zeros_in hzs0 hu)

/-- The block of words is none that holds no words. -/
theorem IsW.notClean {w : World} {a : Option Addr} {n c : Nat} {l : List Nat} {v : Value} {x : Nat} (h : IsW w (.slice a n c) l) (hn : n ≠ 0) (hx : (Value.slice a n c).ownBlock = some x) (hv : Clean w v) : v.ownBlock ≠ some x := by
  intro hvx
  obtain ⟨a', c', he, -, -, -, h4, -⟩ := id h
  simp only [Value.slice.injEq] at he
  obtain ⟨rfl, hnl, rfl⟩ := he
  obtain ⟨b, off, rfl, -, -⟩ := h4 (by intro e; have h9 : l = [] := (by simpa using e); rw [h9] at hnl; exact hn hnl)
  simp only [Value.ownBlock, Option.some.injEq] at hx
  subst hx
  have hc := h.cell 0 (by omega)
  have hc' : w.cell? ⟨b, off, none⟩ = some (.int .u32 (nth l 0 : Nat)) := by simpa using hc
  cases hh : w.heap[b]? with
  | none => simp [World.cell?, hh] at hc'
  | some ob =>
    cases ob with
    | cells cs e fr =>
      rw [cell_of_row _ _ _ _ _ _ hh] at hc'
      exact hv b cs e fr hvx hh _ (Array.mem_toList_iff.2 (Array.mem_of_getElem? hc')) (nth l 0) rfl
    | _ => simp [World.cell?, hh] at hc'
theorem FewF.notClean {N : Nat} {w : World} {b : Bool} {a1 a2 : Option Addr} {n1 c1 n2 c2 : Nat} {q : Rat} {v : Value} (h : FewF N w (.agg #[.bool b, .slice a1 n1 c1, .slice a2 n2 c2]) q) (hv : Clean w v) :
    (n1 ≠ 0 → ∀ x, (Value.slice a1 n1 c1).ownBlock = some x → v.ownBlock ≠ some x) ∧ (n2 ≠ 0 → ∀ x, (Value.slice a2 n2 c2).ownBlock = some x → v.ownBlock ≠ some x) := by
  obtain ⟨b', l, m, ⟨u, d, he, hu, hd⟩, -, -, -⟩ := h
  simp only [Value.agg.injEq, Array.mk.injEq, List.cons.injEq, and_true] at he
  obtain ⟨-, rfl, rfl⟩ := he
  exact ⟨fun e x hx => hu.notClean e hx hv, fun e x hx => hd.notClean e hx hv⟩
/-- A fraction stays, whatever is appended to a list that holds no words. -/
theorem FewF.grown {N : Nat} {w w' : World} {b : Bool} {a1 a2 : Option Addr} {n1 c1 n2 c2 : Nat} {q : Rat} {v : Value} (h : FewF N w (.agg #[.bool b, .slice a1 n1 c1, .slice a2 n2 c2]) q) (hv : Clean w v) (hg : w.grownBy w' v.ownBlock) :
    FewF N w' (.agg #[.bool b, .slice a1 n1 c1, .slice a2 n2 c2]) q := by
  have hn := h.notClean hv
  have hl := h.own
  exact h.keep hg.size (fun e x hx => hg.block x (hl.1 e x hx) (fun e2 => hn.1 e x hx e2.symm)) (fun e x hx => hg.block x (hl.2 e x hx) (fun e2 => hn.2 e x hx e2.symm))

/-- A list of fractions of the call's own; its block holds no words. -/
def LFs (N : Nat) (w : World) (base : Nat) (v : Value) (qs : List Rat) : Prop :=
  ∃ xs, w.ownsRow base 26 3 v qs.length xs ∧ Clean w v ∧ ∀ j q, qs[j]? = some q → ∃ b a1 n1 c1 a2 n2 c2, xs[j * 3]? = some (.bool b) ∧ xs[j * 3 + 1]? = some (.slice a1 n1 c1) ∧ xs[j * 3 + 2]? = some (.slice a2 n2 c2) ∧
    FewF N w (.agg #[.bool b, .slice a1 n1 c1, .slice a2 n2 c2]) q
theorem LFs.nil (N : Nat) (w : World) (base : Nat) : LFs N w base (.slice none 0 0) [] := ⟨[], World.ownsRow_nil w base _ 3, fun _ _ _ _ h => by simp [Value.ownBlock] at h, fun j q h => by simp at h⟩
theorem LFs.lt {N : Nat} {w : World} {base : Nat} {v : Value} {qs : List Rat} (h : LFs N w base v qs) : ∀ g, v.ownBlock = some g → base ≤ g ∧ g < w.heap.size := by
  obtain ⟨xs, ho, -⟩ := h
  exact fun g hg => World.ownsRow.lt ho g hg
/-- A list stays, where its block and its words stay. -/
theorem LFs.grown {N : Nat} {w w' : World} {base : Nat} {v : Value} {qs : List Rat} {row : Option Nat} (h : LFs N w base v qs) (hg : w.grownBy w' row) (hne : ∀ g, v.ownBlock = some g → row ≠ some g) (hv : ∀ b a1 n1 c1 a2 n2 c2 q, FewF N w (.agg #[.bool b, .slice a1 n1 c1, .slice a2 n2 c2]) q → FewF N w' (.agg #[.bool b, .slice a1 n1 c1, .slice a2 n2 c2]) q) : LFs N w' base v qs := by
  have hlt := h.lt
  obtain ⟨xs, ho, hc, he⟩ := h
  refine ⟨xs, World.ownsRow.kept (row := row) ho hg (by
    cases hb : v.ownBlock with
    | none => simp
    | some g => exact Or.inr (fun e => hne g hb e.symm)), ?_, fun j q hq => ?_⟩
  · intro g cs e fr hb hh
    rw [hg.block g (hlt g hb).2 (fun e => hne g hb e.symm)] at hh
    exact hc g cs e fr hb hh
  · obtain ⟨b, a1, n1, c1, a2, n2, c2, h0, h1, h2, hf⟩ := he j q hq
    exact ⟨b, a1, n1, c1, a2, n2, c2, h0, h1, h2, hv _ _ _ _ _ _ _ _ hf⟩
theorem LFs.below {N : Nat} {w w' : World} {base : Nat} {v : Value} {qs : List Rat} (h : LFs N w base v qs) (hb : Below w.heap.size w w') : LFs N w' base v qs :=
  h.grown (row := none) ⟨hb.os, hb.tape, hb.output, hb.size, fun k hk _ => hb.block k hk⟩ (fun g _ e => by cases e) (fun _ _ _ _ _ _ _ _ hf => hf.below hb)
theorem LFs.list {N : Nat} {w : World} {base : Nat} {v : Value} {qs : List Rat} (h : LFs N w base v qs) : ListF N w v qs := by
  obtain ⟨xs, ho, -, he⟩ := h
  have hcells := fun g hg => World.ownsRow.cells ho (g := g) hg
  rcases ho.2 with ⟨rfl, h0⟩ | ⟨g, cap, cur, rfl, _, _, _, _, _, _⟩
  · refine ⟨none, 0, by rw [h0], fun i q hq => ?_⟩
    have := List.eq_nil_of_length_eq_zero h0
    subst this
    simp at hq
  · refine ⟨_, cap, rfl, fun i q hq => ?_⟩
    obtain ⟨b, a1, n1, c1, a2, n2, c2, h0, h1, h2, hf⟩ := he i q hq
    have k0 := hcells g rfl _ _ h0
    have k1 := hcells g rfl _ _ h1
    have k2 := hcells g rfl _ _ h2
    rw [Addr.add_lit] at k0 k1 k2
    exact ⟨g, 0, b, a1, n1, c1, a2, n2, c2, rfl, k0, by rw [Nat.add_assoc]; exact k1, by rw [Nat.add_assoc]; exact k2, hf⟩
theorem LFs.form {N : Nat} {w : World} {base : Nat} {v : Value} {qs : List Rat} (h : LFs N w base v qs) : ∃ a c, v = .slice a qs.length c := by
  obtain ⟨xs, ho, -⟩ := h
  rcases ho.2 with ⟨rfl, h0⟩ | ⟨g, cap, cur, rfl, -⟩
  · exact ⟨none, 0, by rw [h0]⟩
  · exact ⟨_, _, rfl⟩

theorem LFs.cap {N : Nat} {w : World} {base : Nat} {v : Value} {qs : List Rat} (h : LFs N w base v qs) : ∃ a c, v = .slice a qs.length c ∧ qs.length ≤ c := by
  obtain ⟨xs, ho, -⟩ := h
  rcases ho.2 with ⟨rfl, h0⟩ | ⟨g, cap, cur, rfl, _, _, hnc, _⟩
  · exact ⟨none, 0, by rw [h0], by omega⟩
  · exact ⟨_, _, rfl, hnc⟩

/-- One more, by append. -/
theorem wpList_push_frac {w : World} {ops : Array Oper} {rest : List Oper} {o : Oper} {a : Act} {Q : Exit → Act → World → Prop} (hgd : o.guard = none) (s x : Operand)
    (ho : o.op = .call { callee := .builtin .append, args := #[s, x], argTypes := #[23, 23] }) (N base : Nat) (v : Value) (qs : List Rat) (hs : a.eval s = v) (hown : LFs N w base v qs)
    (g c : Nat) (b : Bool) (a1 a2 : Option Addr) (n1 c1 n2 c2 : Nat) (q : Rat) (hx : a.eval x = .slice (some ⟨g, 0, none⟩) 1 c) (hrow : w.heap[g]? = some (.cells #[Value.bool b, Value.slice a1 n1 c1, Value.slice a2 n2 c2] 26 (0, 0)))
    (hf : FewF N w (.agg #[.bool b, .slice a1 n1 c1, .slice a2 n2 c2]) q) (hlen : qs.length ≤ 1000000) (hbase : base ≤ w.heap.size)
    (h : ∀ v' w', LFs N w' base v' (qs ++ [q]) → w.grownBy w' v.ownBlock → (∀ W, Below base W w → Below base W w') → (v'.ownBlock = v.ownBlock ∨ v'.ownBlock = some w.heap.size) → wpList Try.prog ops Q rest (a.put o.dst v') w') :
    wpList Try.prog ops Q (o :: rest) a w := by
  obtain ⟨i0, hi0, hz0, hz1, hz2⟩ := info_parts info_frac
  have hlt := hown.lt
  have hown0 := hown
  obtain ⟨xs, hxs, hcl, hel⟩ := hown
  have hnl : [Value.bool b, Value.slice a1 n1 c1, Value.slice a2 n2 c2].length = 1 * 3 := rfl
  obtain ⟨v', w', hr, h2, h3, h4, h5⟩ := run_append_clean (P := Try.prog) (w := w) base 23 o.type 26 i0 (.agg #[Value.bool false, Value.slice none 0 0, Value.slice none 0 0]) 3 56 Try.underlying23 hi0 hz0 hz1 hz2 rfl (by decide) v qs.length xs hxs ⟨g, 0, none⟩ 1 c
    [Value.bool b, Value.slice a1 n1 c1, Value.slice a2 n2 c2] hnl (by
      intro j u hu
      rw [Addr.add_lit, cell_of_row _ _ _ _ _ _ hrow]
      simpa using hu) (by intro u hu; simp at hu; rcases hu with rfl | rfl | rfl <;> rfl) (by unfold maxLen; omega) (by omega) hbase (by decide)
    (by intro u hu k; simp [Value.cells] at hu; rcases hu with rfl | rfl <;> (intro e; cases e)) (by intro u hu k; simp at hu; rcases hu with rfl | rfl | rfl <;> (intro e; cases e)) hcl
  refine wpList_plain hgd fun K hK => ?_
  unfold Oper.wp execOp
  simp only [ho, resolve, invoke, builtin, Sem.run_bind, Sem.run_pure, Result.andThen_ok, List.map_toArray, List.map_cons, List.map_nil, hs, hx, hr]
  refine hK _ _ (h v' w' ?_ h3 ?_ h4)
  · refine ⟨xs ++ [Value.bool b, Value.slice a1 n1 c1, Value.slice a2 n2 c2], by simpa using h2, h5, fun j r hr => ?_⟩
    have hxl : xs.length = qs.length * 3 := hxs.1
    by_cases hj : j < qs.length
    · rw [List.getElem?_append_left hj] at hr
      obtain ⟨b', a1', n1', c1', a2', n2', c2', e0, e1, e2, hf'⟩ := hel j r hr
      exact ⟨b', a1', n1', c1', a2', n2', c2', by rw [List.getElem?_append_left (by omega)]; exact e0, by rw [List.getElem?_append_left (by omega)]; exact e1, by rw [List.getElem?_append_left (by omega)]; exact e2, hf'.grown hcl h3⟩
    · have hjl : j = qs.length := by
        have h9 := (List.getElem?_eq_some_iff.1 hr).1
        simp at h9; omega
      subst hjl
      simp at hr
      subst hr
      refine ⟨b, a1, n1, c1, a2, n2, c2, ?_, ?_, ?_, hf.grown hcl h3⟩
      · rw [List.getElem?_append_right (by omega), hxl]; simp
      · rw [List.getElem?_append_right (by omega), hxl, show qs.length * 3 + 1 - qs.length * 3 = 1 by omega]; rfl
      · rw [List.getElem?_append_right (by omega), hxl, show qs.length * 3 + 2 - qs.length * 3 = 2 by omega]; rfl
  · intro W hW
    exact hW.grown h3 hbase (fun k hk => (hlt k hk).1)
end Go.Proofs.Ytimbojhmjadgkaa

/- RuleDrawn: the walk. -/
namespace Go.Proofs.Ytimbojhmjadgkaa
open Go.ChangeShapes Go.WideShapes Go.ChangeAt Go.RowKit
attribute [local go_sem ↓] Go.wp_at_zero Go.wp_at_succ

theorem cells_int : Try.prog.cellsOf 3 = 1 := by kernel_rfl
/-- Numbers that came in. -/
def IntsI (w : World) (a : Option Addr) (zs : List Int) : Prop := ∀ i z, zs[i]? = some z → (∃ B off, a = some ⟨B, off, none⟩ ∧ w.cell? ⟨B, off + i, none⟩ = some (.int .i64 z)) ∧ -9223372036854775808 ≤ z ∧ z ≤ 9223372036854775807
theorem IntsI.below {w w' : World} {a : Option Addr} {zs : List Int} (h : IntsI w a zs) (hb : Below w.heap.size w w') : IntsI w' a zs := fun i z hz => by
  obtain ⟨⟨B, off, ha, hc⟩, hr⟩ := h i z hz
  exact ⟨⟨B, off, ha, cell_below hb hc⟩, hr⟩
theorem ints_in {H : Type} {enc : TypeId × Value → H} {W : World} {v : Value} {d : DataW H} {p : List MemPlace}
    (h : DataW.Trod enc Try.prog W 0 (fun _ => true) true 22 v d p) (hv : ∃ a n c, v = .slice a n c) : ∃ a c zs, v = .slice a zs.length c ∧ zs.length ≤ maxLen ∧ IntsI W a zs := by
  obtain ⟨a, n, c, rfl⟩ := hv
  obtain ⟨fuel, hf⟩ := h
  rcases open_ints Try.underlying22 Try.underlying3 cells_int hf with ⟨hcs, _⟩ | ⟨y, len, cap, zs, hcs, _, hl, hm, hz, _, hcell, hw⟩
  · simp [Value.cells] at hcs
    obtain ⟨rfl, rfl, rfl⟩ := hcs
    exact ⟨none, 0, [], rfl, by simp [maxLen], fun i z h => by simp at h⟩
  · simp [Value.cells] at hcs
    obtain ⟨rfl, rfl, rfl⟩ := hcs
    have hz' : zs.length = c := by simpa using hz
    by_cases h0 : n = 0
    · subst h0
      exact ⟨some y, c, [], rfl, by simp [maxLen], fun i z h => by simp at h⟩
    have hcell0 : W.cell? y = _ := hcell 0 (by omega)
    obtain ⟨b, off, rfl, hlt⟩ := spot_here hcell0
    have hlen : (zs.take n).length = n := by simp; omega
    refine ⟨_, c, zs.take n, by rw [hlen], by rw [hlen]; omega, fun i z hi => ?_⟩
    have hin : i < n := by
      have := (List.getElem?_eq_some_iff.1 hi).1
      omega
    rw [List.getElem?_take_of_lt hin] at hi
    have hc := hcell i (by omega)
    rw [add_flat] at hc
    have e : zs.getD i 0 = z := by rw [List.getD_eq_getElem?_getD, hi]; rfl
    rw [e] at hc
    refine ⟨⟨b, off, rfl, hc⟩, ?_⟩
    have := hw z (List.mem_of_getElem? hi)
    have m1 : IntKind.i64.min = -9223372036854775808 := by decide
    have m2 : IntKind.i64.max = 9223372036854775807 := by decide
    simpa only [Lit.wf, m1, m2, Bool.and_eq_true, decide_eq_true_eq] using this
/-- A number, as the walk reads it. -/
theorem IntsI.at {w : World} {a : Option Addr} {zs : List Int} (h : IntsI w a zs) {i : Nat} (hi : i < zs.length) :
    ∃ B off z, zs[i]? = some z ∧ a = some ⟨B, off, none⟩ ∧ (∀ w', Below w.heap.size w w' → w'.cell? ⟨B, off + i, none⟩ = some (.int .i64 z)) ∧ -9223372036854775808 ≤ z ∧ z ≤ 9223372036854775807 := by
  obtain ⟨⟨B, off, ha, hc⟩, hr⟩ := h i (zs[i]'hi) (List.getElem?_eq_getElem hi)
  exact ⟨B, off, zs[i], List.getElem?_eq_getElem hi, ha, fun w' hb => cell_below hb hc, hr⟩

set_option maxHeartbeats 1000000 in
theorem sameints_d {w : World} {a a' : Option Addr} {n c c' : Nat} (hn : n ≤ 1000)
    (h : ∀ i, i < n → ∃ B off B' off' z, a = some ⟨B, off, none⟩ ∧ a' = some ⟨B', off', none⟩ ∧ w.cell? ⟨B, off + i, none⟩ = some (.int .i64 z) ∧ w.cell? ⟨B', off' + i, none⟩ = some (.int .i64 z)) :
    Calls Try.prog 6 #[.slice a n c, .slice a' n c'] w fun e w' => e = .returned (.bool true) ∧ Below w.heap.size w w' := by
  have HH := Lib.hid h
  clear h
  go_enter Try.func6, Try.ntmps6
  go_wp2_with fail
  go_loopw [5] (fun iv wr => ∃ i m : Nat, i ≤ n ∧ iv = .int .i64 i ∧ wr = w.drewN m) (fun iv _ => n - (intOf iv).toNat)
  case atStart => exact ⟨0, 0, Nat.zero_le _, rfl, rfl⟩
  case round =>
    obtain ⟨i, m, hi, rfl, rfl⟩ := hrel
    by_cases hin : i < n
    · have t0 : decide ((i : Int) < (n : Int)) = true := by simp; omega
      obtain ⟨B, off, B', off', z, ha, ha', hc, hc'⟩ := HH.out i hin
      subst ha
      subst ha'
      have t1 : (z != z) = false := by simp
      have hd : (w.drewN m).cell? ⟨B, off + i, none⟩ = some (.int .i64 z) := hc
      have hd' : (w.drewN m).cell? ⟨B', off' + i, none⟩ = some (.int .i64 z) := hc'
      go_wp2_with fail
      go_quiet (fail)
      go_wp2_with fail
      go_roundw
      case rel => exact ⟨i + 1, _, by omega, by go_num, rfl⟩
      case measure => simp [intOf]; omega
    · have t0 : decide ((i : Int) < (n : Int)) = false := by simp; omega
      go_wp2_with fail
      go_ret
      exact ⟨rfl, below_drewN (Below.refl _ _) _⟩

/-- What the parts sum to, so far. -/
theorem pre_ints {zs : List Int} {i : Nat} {z : Int} (hz : zs[i]? = some z) (h0 : 0 ≤ z) : ((preN (zs.map Int.toNat) (i + 1) : Nat) : Int) = (preN (zs.map Int.toNat) i : Nat) + z := by
  show ((preN (zs.map Int.toNat) i + ((zs.map Int.toNat)[i]?).getD 0 : Nat) : Int) = _
  rw [List.getElem?_map, hz]
  show ((preN (zs.map Int.toNat) i + z.toNat : Nat) : Int) = _
  omega
theorem pre_bound {l : List Nat} {n : Nat} : ∀ i, (∀ j x, j < i → l[j]? = some x → x ≤ n) → preN l i ≤ i * n
  | 0, _ => by simp [preN]
  | i + 1, h => by
    have h1 := pre_bound i (fun j x hj => h j x (by omega))
    show preN l i + (l[i]?).getD 0 ≤ _
    rw [Nat.add_mul]
    cases hl : l[i]? with
    | none => simp; omega
    | some x => have := h i x (by omega) hl; simp; omega
/-- The place that a ticket draws, by the parts. -/
theorem drawn_parts {n k o : Nat} {l : List Nat} (hn : 0 < n) (hk : k < n) (hs : preN l l.length = n) (h : DrawnAt (l.map (partQ n)) (partQ n k) o) : o < l.length ∧ preN l o ≤ k ∧ k < preN l (o + 1) := by
  obtain ⟨h1, h2, h3⟩ := h
  rw [List.length_map] at h1 h3
  have ek : partQ n k = ((k : Int) : Rat) * ((n : Int) : Rat)⁻¹ := part_eq hn
  refine ⟨h1, ?_, ?_⟩
  · cases o with
    | zero => exact Nat.zero_le _
    | succ o =>
      have h4 := h2 o (by omega)
      rw [part_sum hn (o + 1) (by omega), ek] at h4
      have h5 := cmp_parts (n := n) (a := preN l (o + 1)) (b := k) hn
      omega
  · by_cases ho : o + 1 < l.length
    · have h4 := h3 ho
      rw [part_sum hn (o + 1) (by omega), ek] at h4
      exact (cmp_parts hn).1 h4
    · have : o + 1 = l.length := by omega
      rw [this, hs]; exact hk
end Go.Proofs.Ytimbojhmjadgkaa
