/- Several texts in one: Lw. -/
import Derived.Test.YtlaphdlocchagaaGreatZ26
import Derived.Test.YtlaphdlocchagaaGreatZ24
import Derived.Maps.AppendAt
/- Lists of a call's own whose blocks hold no words: what is appended to them changes no words, wherever the words lie. -/
namespace Go.Proofs.YtlaphdlocchagaaGreat
open Go.RowKit

/-- No word. -/
def NoU (u : Value) : Prop := ∀ k : Nat, u ≠ U k
/-- A slice whose block holds no words. -/
def Clean (w : World) (v : Value) : Prop := ∀ g cs e fr, v.ownBlock = some g → w.heap[g]? = some (.cells cs e fr) → ∀ u ∈ cs.toList, NoU u
theorem zeros_in {z : Array Value} {n : Nat} {u : Value} (hs : 0 < z.size) (h : u ∈ (Builtin.zeroCells z n).toList) : u ∈ z.toList := by
  simp only [Builtin.zeroCells, Array.toList_map, List.mem_map, Array.mem_toList_iff] at h
  obtain ⟨i, -, rfl⟩ := h
  rw [getElem!_pos z (i % z.size) (Nat.mod_lt _ hs)]
  exact Array.mem_toList_iff.2 (Array.getElem_mem _)

theorem run_append_clean {P : Program} {w : World} (base : Nat) (t ty e : TypeId) (i : TypeInfo) (z : Value) (size bytes : Nat) (ht : P.underlying t = some (.slice e)) (hi : P.info? e = some i) (hz : i.zero = some z)
    (hsize : i.size = size) (hby : i.bytes = bytes) (hzs : z.cells.size = size) (hsz : 0 < size)
    (v : Value) (n : Nat) (xs : List Value) (hown : w.ownsRow base e size v n xs)
    (a : Addr) (m c : Nat) (news : List Value) (hl : news.length = m * size) (hnews : ∀ j u, news[j]? = some u → w.cell? (a.add j) = some u) (h1 : ∀ u ∈ news, u.oneCell' = true)
    (h63 : n + m ≤ maxLen) (hbytes : (n + m) * bytes ≤ 140737488355328) (hbase : base ≤ w.heap.size) (hm : 0 < m)
    (hzc : ∀ u ∈ z.cells.toList, NoU u) (hnc : ∀ u ∈ news, NoU u) (hcl : Clean w v) :
    ∃ v' w', (Builtin.append_ #[t, t] ty #[v, .slice (some a) m c]).run P w = .ok v' w' ∧ w'.ownsRow base e size v' (n + m) (xs ++ news) ∧ w.grownBy w' v.ownBlock ∧
      (v'.ownBlock = v.ownBlock ∨ v'.ownBlock = some w.heap.size) ∧ Clean w' v' ∧ w'.ownsRow base e size v n xs ∧ Clean w' v := by
  obtain ⟨v', w', hr, ho, hg, -, hat⟩ := run_append_own_at (P := P) (w := w) base t ty e i z size bytes ht hi hz hsize hby hzs hsz v n xs hown a m c news hl hnews h1 h63 hbytes hbase
  refine ⟨v', w', hr, ho, hg, hat, ?_⟩
  have hsmall : n + m ≤ 9223372036854775807 := by simp only [maxLen] at h63; omega
  have fresh : ∀ (cs : Array Value) (k : Nat), (∀ u ∈ cs.toList, NoU u) → v' = .slice (some ⟨w.heap.size, 0, none⟩) (n + m) k → w' = w.drew.alloc (.cells cs e) → Clean w' v' ∧ w'.ownsRow base e size v n xs ∧ Clean w' v := by
    rintro cs k hcs rfl rfl
    have hold : ∀ k, k < w.heap.size → (w.drew.alloc (.cells cs e)).heap[k]? = w.heap[k]? := fun k hk => heap_alloc_old (r := k) w.drew _ hk
    refine ⟨?_, World.ownsRow.kept (row := none) hown ⟨rfl, rfl, rfl, by simp, fun k hk _ => hold k hk⟩ (by cases hv : v.ownBlock <;> simp), fun g cs' e' fr' hb hh => hcl g cs' e' fr' hb (by rw [← hold g (World.ownsRow.lt hown g hb).2]; exact hh)⟩
    intro g cs' e' fr' hb hh u hu
    simp only [Value.ownBlock, Option.some.injEq] at hb
    subst hb
    have h9 : (w.drew.alloc (.cells cs e)).heap[w.heap.size]? = some (.cells cs e (0, 0)) := heap_alloc_new w.drew _
    rw [h9] at hh
    simp only [Option.some.injEq, Obj.cells.injEq] at hh
    obtain ⟨rfl, -, -⟩ := hh
    exact hcs u hu
  have hzs0 : 0 < z.cells.size := by omega
  rcases hown.2 with ⟨rfl, rfl⟩ | ⟨g, cap, cur, rfl, hbg, hh, hnc', hcm, hcs, htake⟩
  · have hx : xs = [] := List.eq_nil_of_length_eq_zero (by simpa using hown.1)
    subst hx
    have hr2 := run_append_nil (P := P) (w := w) t ty e i z ht hi hz a m c news (by rw [hsize]; exact hl) hnews hm (by omega) (by rw [hby]; have hb := hbytes; simp only [Nat.zero_add] at hb; omega)
    rw [hr2] at hr
    simp only [Result.ok.injEq] at hr
    refine fresh _ _ ?_ (by rw [Nat.zero_add]; exact hr.1.symm) hr.2.symm
    intro u hu
    rw [Array.toList_append, List.mem_append] at hu
    rcases hu with hu | hu
    · exact hnc u (by simpa using hu)
    · exact hzc u (zeros_in hzs0 hu)
  · have hcur : ∀ u ∈ cur.toList, NoU u := hcl g cur e (0, 0) rfl hh
    by_cases hroom : n + m ≤ cap
    · have hfit : n * i.size + news.length ≤ cur.size := by rw [hl, hcs, hsize, ← Nat.add_mul]; exact Nat.mul_le_mul_right _ hroom
      have hr2 := run_append_room (P := P) (w := w) t ty e i ht hi g n cap cur hh a m c news (by rw [hsize]; exact hl) hnews h1 hroom hfit
      rw [hr2] at hr
      simp only [Result.ok.injEq] at hr
      obtain ⟨rfl, rfl⟩ := hr
      have hcl2 : ∀ g' cs' e' fr', some g = some g' → (w.setRow g (cur.toList.take (n * i.size) ++ news ++ cur.toList.drop (n * i.size + news.length)).toArray).heap[g']? = some (.cells cs' e' fr') → ∀ u ∈ cs'.toList, NoU u := by
        intro g' cs' e' fr' hb hh' u hu
        simp only [Option.some.injEq] at hb
        subst hb
        rw [setRow_heap w g cur _ e _ hh] at hh'
        simp only [Option.some.injEq, Obj.cells.injEq] at hh'
        obtain ⟨rfl, -, -⟩ := hh'
        simp only [List.mem_append] at hu
        rcases hu with (hu | hu) | hu
        · exact hcur u (List.mem_of_mem_take hu)
        · exact hnc u hu
        · exact hcur u (List.mem_of_mem_drop hu)
      refine ⟨fun g' cs' e' fr' hb => hcl2 g' cs' e' fr' hb, ⟨hown.1, .inr ⟨g, cap, _, rfl, hbg, setRow_heap w g cur _ e _ hh, hnc', hcm, ?_, ?_⟩⟩, fun g' cs' e' fr' hb => hcl2 g' cs' e' fr' hb⟩
      · simp only [List.size_toArray, List.length_append, List.length_take, List.length_drop, Array.length_toList]
        omega
      · have hlen : (cur.toList.take (n * i.size)).length = n * size := by rw [List.length_take, Array.length_toList, hsize]; have := Nat.mul_le_mul_right size hnc'; omega
        rw [List.append_assoc, ← hlen, List.take_left]
        rw [hsize]; exact htake
    · have holds : ∀ j u, xs[j]? = some u → w.cell? ((⟨g, 0, none⟩ : Addr).add j) = some u := hown.cells (g := g) rfl
      have hr2 := run_append_grow (P := P) (w := w) t ty e i z ht hi hz ⟨g, 0, none⟩ n cap xs (by rw [hsize]; exact hown.1) holds a m c news (by rw [hsize]; exact hl) hnews (by omega) (by omega) (by rw [hby]; exact growslice_fits (by omega) hbytes)
      rw [hr2] at hr
      simp only [Result.ok.injEq] at hr
      refine fresh _ _ ?_ hr.1.symm hr.2.symm
      intro u hu
      rw [Array.toList_append, Array.toList_append, List.mem_append, List.mem_append] at hu
      rcases hu with (hu | hu) | hu
      · rw [← htake] at hu
        exact hcur u (List.mem_of_mem_take (by simpa using hu))
      · exact hnc u (by simpa using hu)
      · exact hzc u (zeros_in hzs0 hu)

/-- The block of words is none that holds no words. -/
theorem IsW.notClean {w : World} {a : Option Addr} {n c : Nat} {l : List Nat} {v : Value} {x : Nat} (h : IsW w (.slice a n c) l) (hn : n ≠ 0) (hx : (Value.slice a n c).ownBlock = some x) (hv : Clean w v) : v.ownBlock ≠ some x := by
  intro hvx
  obtain ⟨a', c', he, -, -, -, h4, -⟩ := id h
  simp only [Value.slice.injEq] at he
  obtain ⟨rfl, hnl, rfl⟩ := he
  obtain ⟨b, off, rfl, -, -⟩ := h4 (by intro e; have h9 : l = [] := (by simpa using e); rw [h9] at hnl; exact hn hnl)
  simp only [Value.ownBlock, Option.some.injEq] at hx
  subst hx
  have hc := h.cell 0 (by omega)
  have hc' : w.cell? ⟨b, off, none⟩ = some (.int .u32 (nth l 0 : Nat)) := by simpa using hc
  cases hh : w.heap[b]? with
  | none => simp [World.cell?, hh] at hc'
  | some ob =>
    cases ob with
    | cells cs e fr =>
      rw [cell_of_row _ _ _ _ _ _ hh] at hc'
      exact hv b cs e fr hvx hh _ (Array.mem_toList_iff.2 (Array.mem_of_getElem? hc')) (nth l 0) rfl
    | _ => simp [World.cell?, hh] at hc'
theorem FewF.notClean {N : Nat} {w : World} {b : Bool} {a1 a2 : Option Addr} {n1 c1 n2 c2 : Nat} {q : Rat} {v : Value} (h : FewF N w (.agg #[.bool b, .slice a1 n1 c1, .slice a2 n2 c2]) q) (hv : Clean w v) :
    (n1 ≠ 0 → ∀ x, (Value.slice a1 n1 c1).ownBlock = some x → v.ownBlock ≠ some x) ∧ (n2 ≠ 0 → ∀ x, (Value.slice a2 n2 c2).ownBlock = some x → v.ownBlock ≠ some x) := by
  obtain ⟨b', l, m, ⟨u, d, he, hu, hd⟩, -, -, -⟩ := h
  simp only [Value.agg.injEq, Array.mk.injEq, List.cons.injEq, and_true] at he
  obtain ⟨-, rfl, rfl⟩ := he
  exact ⟨fun e x hx => hu.notClean e hx hv, fun e x hx => hd.notClean e hx hv⟩
/-- A fraction stays, whatever is appended to a list that holds no words. -/
theorem FewF.grown {N : Nat} {w w' : World} {b : Bool} {a1 a2 : Option Addr} {n1 c1 n2 c2 : Nat} {q : Rat} {v : Value} (h : FewF N w (.agg #[.bool b, .slice a1 n1 c1, .slice a2 n2 c2]) q) (hv : Clean w v) (hg : w.grownBy w' v.ownBlock) :
    FewF N w' (.agg #[.bool b, .slice a1 n1 c1, .slice a2 n2 c2]) q := by
  have hn := h.notClean hv
  have hl := h.own
  exact h.keep hg.size (fun e x hx => hg.block x (hl.1 e x hx) (fun e2 => hn.1 e x hx e2.symm)) (fun e x hx => hg.block x (hl.2 e x hx) (fun e2 => hn.2 e x hx e2.symm))

/-- A list of fractions of the call's own; its block holds no words. -/
def LFs (N : Nat) (w : World) (base : Nat) (v : Value) (qs : List Rat) : Prop :=
  ∃ xs, w.ownsRow base 47 3 v qs.length xs ∧ Clean w v ∧ ∀ j q, qs[j]? = some q → ∃ b a1 n1 c1 a2 n2 c2, xs[j * 3]? = some (.bool b) ∧ xs[j * 3 + 1]? = some (.slice a1 n1 c1) ∧ xs[j * 3 + 2]? = some (.slice a2 n2 c2) ∧
    FewF N w (.agg #[.bool b, .slice a1 n1 c1, .slice a2 n2 c2]) q
theorem LFs.nil (N : Nat) (w : World) (base : Nat) : LFs N w base (.slice none 0 0) [] := ⟨[], World.ownsRow_nil w base _ 3, fun _ _ _ _ h => by simp [Value.ownBlock] at h, fun j q h => by simp at h⟩
theorem LFs.lt {N : Nat} {w : World} {base : Nat} {v : Value} {qs : List Rat} (h : LFs N w base v qs) : ∀ g, v.ownBlock = some g → base ≤ g ∧ g < w.heap.size := by
  obtain ⟨xs, ho, -⟩ := h
  exact fun g hg => World.ownsRow.lt ho g hg
/-- A list stays, where its block and its words stay. -/
theorem LFs.grown {N : Nat} {w w' : World} {base : Nat} {v : Value} {qs : List Rat} {row : Option Nat} (h : LFs N w base v qs) (hg : w.grownBy w' row) (hne : ∀ g, v.ownBlock = some g → row ≠ some g) (hv : ∀ b a1 n1 c1 a2 n2 c2 q, FewF N w (.agg #[.bool b, .slice a1 n1 c1, .slice a2 n2 c2]) q → FewF N w' (.agg #[.bool b, .slice a1 n1 c1, .slice a2 n2 c2]) q) : LFs N w' base v qs := by
  have hlt := h.lt
  obtain ⟨xs, ho, hc, he⟩ := h
  refine ⟨xs, World.ownsRow.kept (row := row) ho hg (by
    cases hb : v.ownBlock with
    | none => simp
    | some g => exact Or.inr (fun e => hne g hb e.symm)), ?_, fun j q hq => ?_⟩
  · intro g cs e fr hb hh
    rw [hg.block g (hlt g hb).2 (fun e => hne g hb e.symm)] at hh
    exact hc g cs e fr hb hh
  · obtain ⟨b, a1, n1, c1, a2, n2, c2, h0, h1, h2, hf⟩ := he j q hq
    exact ⟨b, a1, n1, c1, a2, n2, c2, h0, h1, h2, hv _ _ _ _ _ _ _ _ hf⟩
theorem LFs.below {N : Nat} {w w' : World} {base : Nat} {v : Value} {qs : List Rat} (h : LFs N w base v qs) (hb : Below w.heap.size w w') : LFs N w' base v qs :=
  h.grown (row := none) ⟨hb.os, hb.tape, hb.output, hb.size, fun k hk _ => hb.block k hk⟩ (fun g _ e => by cases e) (fun _ _ _ _ _ _ _ _ hf => hf.below hb)
theorem LFs.list {N : Nat} {w : World} {base : Nat} {v : Value} {qs : List Rat} (h : LFs N w base v qs) : ListF N w v qs := by
  obtain ⟨xs, ho, -, he⟩ := h
  have hcells := fun g hg => World.ownsRow.cells ho (g := g) hg
  rcases ho.2 with ⟨rfl, h0⟩ | ⟨g, cap, cur, rfl, _, _, _, _, _, _⟩
  · refine ⟨none, 0, by rw [h0], fun i q hq => ?_⟩
    have := List.eq_nil_of_length_eq_zero h0
    subst this
    simp at hq
  · refine ⟨_, cap, rfl, fun i q hq => ?_⟩
    obtain ⟨b, a1, n1, c1, a2, n2, c2, h0, h1, h2, hf⟩ := he i q hq
    have k0 := hcells g rfl _ _ h0
    have k1 := hcells g rfl _ _ h1
    have k2 := hcells g rfl _ _ h2
    rw [Addr.add_lit] at k0 k1 k2
    exact ⟨g, 0, b, a1, n1, c1, a2, n2, c2, rfl, k0, by rw [Nat.add_assoc]; exact k1, by rw [Nat.add_assoc]; exact k2, hf⟩
theorem LFs.clean {N : Nat} {w : World} {base : Nat} {v : Value} {qs : List Rat} (h : LFs N w base v qs) : Clean w v := h.elim fun _ h => h.2.1
theorem LFs.form {N : Nat} {w : World} {base : Nat} {v : Value} {qs : List Rat} (h : LFs N w base v qs) : ∃ a c, v = .slice a qs.length c := by
  obtain ⟨xs, ho, -⟩ := h
  rcases ho.2 with ⟨rfl, h0⟩ | ⟨g, cap, cur, rfl, -⟩
  · exact ⟨none, 0, by rw [h0]⟩
  · exact ⟨_, _, rfl⟩

theorem LFs.cap {N : Nat} {w : World} {base : Nat} {v : Value} {qs : List Rat} (h : LFs N w base v qs) : ∃ a c, v = .slice a qs.length c ∧ qs.length ≤ c := by
  obtain ⟨xs, ho, -⟩ := h
  rcases ho.2 with ⟨rfl, h0⟩ | ⟨g, cap, cur, rfl, _, _, hnc, _⟩
  · exact ⟨none, 0, by rw [h0], by omega⟩
  · exact ⟨_, _, rfl, hnc⟩

/-- One more, by append. -/
theorem oper_push_frac {w : World} {o : Oper} {a : Act} {K : Act → World → Prop} {Q : Exit → Act → World → Prop} (s x : Operand)
    (ho : o.op = .call { callee := .builtin .append, args := #[s, x], argTypes := #[23, 23] }) (N base : Nat) (v : Value) (qs : List Rat) (hs : a.eval s = v) (hown : LFs N w base v qs)
    (g c : Nat) (b : Bool) (a1 a2 : Option Addr) (n1 c1 n2 c2 : Nat) (q : Rat) (hx : a.eval x = .slice (some ⟨g, 0, none⟩) 1 c) (hrow : w.heap[g]? = some (.cells #[Value.bool b, Value.slice a1 n1 c1, Value.slice a2 n2 c2] 47 (0, 0)))
    (hf : FewF N w (.agg #[.bool b, .slice a1 n1 c1, .slice a2 n2 c2]) q) (hlen : qs.length ≤ 1000000) (hbase : base ≤ w.heap.size)
    (h : ∀ v' w', LFs N w' base v' (qs ++ [q]) → w.grownBy w' v.ownBlock → (∀ W, Below base W w → Below base W w') → (v'.ownBlock = v.ownBlock ∨ v'.ownBlock = some w.heap.size) → LFs N w' base v qs → K (a.put o.dst v') w') :
    Oper.wp Tryz.prog o a w K Q := by
  obtain ⟨i0, hi0, hz0, hz1, hz2⟩ := info_parts info_frac
  have hlt := hown.lt
  have hown0 := hown
  obtain ⟨xs, hxs, hcl, hel⟩ := hown
  have hnl : [Value.bool b, Value.slice a1 n1 c1, Value.slice a2 n2 c2].length = 1 * 3 := rfl
  obtain ⟨v', w', hr, h2, h3, h4, h5, h6, h7⟩ := run_append_clean (P := Tryz.prog) (w := w) base 23 o.type 47 i0 (.agg #[Value.bool false, Value.slice none 0 0, Value.slice none 0 0]) 3 56 Tryz.underlying23 hi0 hz0 hz1 hz2 rfl (by decide) v qs.length xs hxs ⟨g, 0, none⟩ 1 c
    [Value.bool b, Value.slice a1 n1 c1, Value.slice a2 n2 c2] hnl (by
      intro j u hu
      rw [Addr.add_lit, cell_of_row _ _ _ _ _ _ hrow]
      simpa using hu) (by intro u hu; simp at hu; rcases hu with rfl | rfl | rfl <;> rfl) (by unfold maxLen; omega) (by omega) hbase (by decide)
    (by intro u hu k; simp [Value.cells] at hu; rcases hu with rfl | rfl <;> (intro e; cases e)) (by intro u hu k; simp at hu; rcases hu with rfl | rfl | rfl <;> (intro e; cases e)) hcl
  unfold Oper.wp execOp
  simp only [ho, resolve, invoke, builtin, Sem.run_bind, Sem.run_pure, Result.andThen_ok, List.map_toArray, List.map_cons, List.map_nil, hs, hx, hr]
  refine h v' w' ?_ h3 ?_ h4 ⟨xs, h6, h7, fun j r hr => ?_⟩
  · refine ⟨xs ++ [Value.bool b, Value.slice a1 n1 c1, Value.slice a2 n2 c2], by simpa using h2, h5, fun j r hr => ?_⟩
    have hxl : xs.length = qs.length * 3 := hxs.1
    by_cases hj : j < qs.length
    · rw [List.getElem?_append_left hj] at hr
      obtain ⟨b', a1', n1', c1', a2', n2', c2', e0, e1, e2, hf'⟩ := hel j r hr
      exact ⟨b', a1', n1', c1', a2', n2', c2', by rw [List.getElem?_append_left (by omega)]; exact e0, by rw [List.getElem?_append_left (by omega)]; exact e1, by rw [List.getElem?_append_left (by omega)]; exact e2, hf'.grown hcl h3⟩
    · have hjl : j = qs.length := by
        have h9 := (List.getElem?_eq_some_iff.1 hr).1
        simp at h9; omega
      subst hjl
      simp at hr
      subst hr
      refine ⟨b, a1, n1, c1, a2, n2, c2, ?_, ?_, ?_, hf.grown hcl h3⟩
      · rw [List.getElem?_append_right (by omega), hxl]; simp
      · rw [List.getElem?_append_right (by omega), hxl, show qs.length * 3 + 1 - qs.length * 3 = 1 by omega]; rfl
      · rw [List.getElem?_append_right (by omega), hxl, show qs.length * 3 + 2 - qs.length * 3 = 2 by omega]; rfl
  · intro W hW
    exact hW.grown h3 hbase (fun k hk => (hlt k hk).1)
  · obtain ⟨b', a1', n1', c1', a2', n2', c2', e0, e1, e2, hf'⟩ := hel j r hr
    exact ⟨b', a1', n1', c1', a2', n2', c2', e0, e1, e2, hf'.grown hcl h3⟩
/-- .. in a plain region. -/
theorem wpList_push_frac {w : World} {ops : Array Oper} {rest : List Oper} {o : Oper} {a : Act} {Q : Exit → Act → World → Prop} (hgd : o.guard = none) (s x : Operand)
    (ho : o.op = .call { callee := .builtin .append, args := #[s, x], argTypes := #[23, 23] }) (N base : Nat) (v : Value) (qs : List Rat) (hs : a.eval s = v) (hown : LFs N w base v qs)
    (g c : Nat) (b : Bool) (a1 a2 : Option Addr) (n1 c1 n2 c2 : Nat) (q : Rat) (hx : a.eval x = .slice (some ⟨g, 0, none⟩) 1 c) (hrow : w.heap[g]? = some (.cells #[Value.bool b, Value.slice a1 n1 c1, Value.slice a2 n2 c2] 47 (0, 0)))
    (hf : FewF N w (.agg #[.bool b, .slice a1 n1 c1, .slice a2 n2 c2]) q) (hlen : qs.length ≤ 1000000) (hbase : base ≤ w.heap.size)
    (h : ∀ v' w', LFs N w' base v' (qs ++ [q]) → w.grownBy w' v.ownBlock → (∀ W, Below base W w → Below base W w') → (v'.ownBlock = v.ownBlock ∨ v'.ownBlock = some w.heap.size) → wpList Tryz.prog ops Q rest (a.put o.dst v') w') :
    wpList Tryz.prog ops Q (o :: rest) a w :=
  wpList_plain hgd fun _ hK => oper_push_frac s x ho N base v qs hs hown g c b a1 a2 n1 c1 n2 c2 q hx hrow hf hlen hbase fun v' w' h1 h2 h3 h4 _ => hK _ _ (h v' w' h1 h2 h3 h4)
/-- .. at a step of a region that draws its order. -/
theorem step_push_frac {w : World} {ops : Array Oper} {o : Oper} {a : Act} {K : Act → World → Prop} {Q : Exit → Act → World → Prop} {E : Prop} (hgd : o.guard = none) (s x : Operand)
    (ho : o.op = .call { callee := .builtin .append, args := #[s, x], argTypes := #[23, 23] }) (N base : Nat) (v : Value) (qs : List Rat) (hs : a.eval s = v) (hown : LFs N w base v qs)
    (g c : Nat) (b : Bool) (a1 a2 : Option Addr) (n1 c1 n2 c2 : Nat) (q : Rat) (hx : a.eval x = .slice (some ⟨g, 0, none⟩) 1 c) (hrow : w.heap[g]? = some (.cells #[Value.bool b, Value.slice a1 n1 c1, Value.slice a2 n2 c2] 47 (0, 0)))
    (hf : FewF N w (.agg #[.bool b, .slice a1 n1 c1, .slice a2 n2 c2]) q) (hlen : qs.length ≤ 1000000) (hbase : base ≤ w.heap.size)
    (h : ∀ v' w', LFs N w' base v' (qs ++ [q]) → w.grownBy w' v.ownBlock → (∀ W, Below base W w → Below base W w') → (v'.ownBlock = v.ownBlock ∨ v'.ownBlock = some w.heap.size) → LFs N w' base v qs → K (a.put o.dst v') w') :
    if Region.wanted o (yielded ops a.tmps) = true then Oper.wp Tryz.prog o a w K Q else E := by
  have hw : Region.wanted o (yielded ops a.tmps) = true := by simp [Region.wanted, hgd]
  rw [if_pos hw]
  exact oper_push_frac s x ho N base v qs hs hown g c b a1 a2 n1 c1 n2 c2 q hx hrow hf hlen hbase h
end Go.Proofs.YtlaphdlocchagaaGreat
