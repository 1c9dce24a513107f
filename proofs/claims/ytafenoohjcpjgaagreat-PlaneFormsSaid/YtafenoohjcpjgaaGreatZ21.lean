/- Several texts in one: Lw, J4, J5, J6, J7, K1, Pt. -/
import Derived.Test.YtafenoohjcpjgaaGreatZ18
import Derived.Maps.AppendAt
import Derived.Test.YtafenoohjcpjgaaGreatZ20
import Derived.Deep.DrawnRows
import Derived.Deep.RegionHeld3
import Derived.Test.YtafenoohjcpjgaaGreatZ7
/- Lists of a call's own whose blocks hold no words: what is appended to them changes no words, wherever the words lie. -/
namespace Go.Proofs.YtafenoohjcpjgaaGreat
open Go.RowKit

/-- No word. -/
def NoU (u : Value) : Prop := ∀ k : Nat, u ≠ U k
/-- A slice whose block holds no words. -/
def Clean (w : World) (v : Value) : Prop := ∀ g cs e fr, v.ownBlock = some g → w.heap[g]? = some (.cells cs e fr) → ∀ u ∈ cs.toList, NoU u
theorem zeros_in {z : Array Value} {n : Nat} {u : Value} (hs : 0 < z.size) (h : u ∈ (Builtin.zeroCells z n).toList) : u ∈ z.toList := by
  simp only [Builtin.zeroCells, Array.toList_map, List.mem_map, Array.mem_toList_iff] at h
  obtain ⟨i, -, rfl⟩ := h
  rw [getElem!_pos z (i % z.size) (Nat.mod_lt _ hs)]
  exact Array.mem_toList_iff.2 (Array.getElem_mem _)

theorem run_append_clean {P : Program} {w : World} (base : Nat) (t ty e : TypeId) (i : TypeInfo) (z : Value) (size bytes : Nat) (ht : P.underlying t = some (.slice e)) (hi : P.info? e = some i) (hz : i.zero = some z)
    (hsize : i.size = size) (hby : i.bytes = bytes) (hzs : z.cells.size = size) (hsz : 0 < size)
    (v : Value) (n : Nat) (xs : List Value) (hown : w.ownsRow base e size v n xs)
    (a : Addr) (m c : Nat) (news : List Value) (hl : news.length = m * size) (hnews : ∀ j u, news[j]? = some u → w.cell? (a.add j) = some u) (h1 : ∀ u ∈ news, u.oneCell' = true)
    (h63 : n + m ≤ maxLen) (hbytes : (n + m) * bytes ≤ 140737488355328) (hbase : base ≤ w.heap.size) (hm : 0 < m)
    (hzc : ∀ u ∈ z.cells.toList, NoU u) (hnc : ∀ u ∈ news, NoU u) (hcl : Clean w v) :
    ∃ v' w', (Builtin.append_ #[t, t] ty #[v, .slice (some a) m c]).run P w = .ok v' w' ∧ w'.ownsRow base e size v' (n + m) (xs ++ news) ∧ w.grownBy w' v.ownBlock ∧
      (v'.ownBlock = v.ownBlock ∨ v'.ownBlock = some w.heap.size) ∧ Clean w' v' ∧ w'.ownsRow base e size v n xs ∧ Clean w' v := by
  obtain ⟨v', w', hr, ho, hg, -, hat⟩ := run_append_own_at (P := P) (w := w) base t ty e i z size bytes ht hi hz hsize hby hzs hsz v n xs hown a m c news hl hnews h1 h63 hbytes hbase
  refine ⟨v', w', hr, ho, hg, hat, ?_⟩
  have hsmall : n + m ≤ 9223372036854775807 := by simp only [maxLen] at h63; omega
  have fresh : ∀ (cs : Array Value) (k : Nat), (∀ u ∈ cs.toList, NoU u) → v' = .slice (some ⟨w.heap.size, 0, none⟩) (n + m) k → w' = w.drew.alloc (.cells cs e) → Clean w' v' ∧ w'.ownsRow base e size v n xs ∧ Clean w' v := by
    rintro cs k hcs rfl rfl
    have hold : ∀ k, k < w.heap.size → (w.drew.alloc (.cells cs e)).heap[k]? = w.heap[k]? := fun k hk => heap_alloc_old (r := k) w.drew _ hk
    refine ⟨?_, World.ownsRow.kept (row := none) hown ⟨rfl, rfl, rfl, by simp, fun k hk _ => hold k hk⟩ (by cases hv : v.ownBlock <;> simp), fun g cs' e' fr' hb hh => hcl g cs' e' fr' hb (by rw [← hold g (World.ownsRow.lt hown g hb).2]; exact hh)⟩
    intro g cs' e' fr' hb hh u hu
    simp only [Value.ownBlock, Option.some.injEq] at hb
    subst hb
    have h9 : (w.drew.alloc (.cells cs e)).heap[w.heap.size]? = some (.cells cs e (0, 0)) := heap_alloc_new w.drew _
    rw [h9] at hh
    simp only [Option.some.injEq, Obj.cells.injEq] at hh
    obtain ⟨rfl, -, -⟩ := hh
    exact hcs u hu
  have hzs0 : 0 < z.cells.size := by omega
  rcases hown.2 with ⟨rfl, rfl⟩ | ⟨g, cap, cur, rfl, hbg, hh, hnc', hcm, hcs, htake⟩
  · have hx : xs = [] := List.eq_nil_of_length_eq_zero (by simpa using hown.1)
    subst hx
    have hr2 := run_append_nil (P := P) (w := w) t ty e i z ht hi hz a m c news (by rw [hsize]; exact hl) hnews hm (by omega) (by rw [hby]; have hb := hbytes; simp only [Nat.zero_add] at hb; omega)
    rw [hr2] at hr
    simp only [Result.ok.injEq] at hr
    refine fresh _ _ ?_ (by rw [Nat.zero_add]; exact hr.1.symm) hr.2.symm
    intro u hu
    rw [Array.toList_append, List.mem_append] at hu
    rcases hu with hu | hu
    · exact hnc u (by simpa using hu)
    · exact hzc u (zeros_in hzs0 hu)
  · have hcur : ∀ u ∈ cur.toList, NoU u := hcl g cur e (0, 0) rfl hh
    by_cases hroom : n + m ≤ cap
    · have hfit : n * i.size + news.length ≤ cur.size := by rw [hl, hcs, hsize, ← Nat.add_mul]; exact Nat.mul_le_mul_right _ hroom
      have hr2 := run_append_room (P := P) (w := w) t ty e i ht hi g n cap cur hh a m c news (by rw [hsize]; exact hl) hnews h1 hroom hfit
      rw [hr2] at hr
      simp only [Result.ok.injEq] at hr
      obtain ⟨rfl, rfl⟩ := hr
      have hcl2 : ∀ g' cs' e' fr', some g = some g' → (w.setRow g (cur.toList.take (n * i.size) ++ news ++ cur.toList.drop (n * i.size + news.length)).toArray).heap[g']? = some (.cells cs' e' fr') → ∀ u ∈ cs'.toList, NoU u := by
        intro g' cs' e' fr' hb hh' u hu
        simp only [Option.some.injEq] at hb
        subst hb
        rw [setRow_heap w g cur _ e _ hh] at hh'
        simp only [Option.some.injEq, Obj.cells.injEq] at hh'
        obtain ⟨rfl, -, -⟩ := hh'
        simp only [List.mem_append] at hu
        rcases hu with (hu | hu) | hu
        · exact hcur u (List.mem_of_mem_take hu)
        · exact hnc u hu
        · exact hcur u (List.mem_of_mem_drop hu)
      refine ⟨fun g' cs' e' fr' hb => hcl2 g' cs' e' fr' hb, ⟨hown.1, .inr ⟨g, cap, _, rfl, hbg, setRow_heap w g cur _ e _ hh, hnc', hcm, ?_, ?_⟩⟩, fun g' cs' e' fr' hb => hcl2 g' cs' e' fr' hb⟩
      · simp only [List.size_toArray, List.length_append, List.length_take, List.length_drop, Array.length_toList]
        omega
      · have hlen : (cur.toList.take (n * i.size)).length = n * size := by rw [List.length_take, Array.length_toList, hsize]; have := Nat.mul_le_mul_right size hnc'; omega
        rw [List.append_assoc, ← hlen, List.take_left]
        rw [hsize]; exact htake
    · have holds : ∀ j u, xs[j]? = some u → w.cell? ((⟨g, 0, none⟩ : Addr).add j) = some u := hown.cells (g := g) rfl
      have hr2 := run_append_grow (P := P) (w := w) t ty e i z ht hi hz ⟨g, 0, none⟩ n cap xs (by rw [hsize]; exact hown.1) holds a m c news (by rw [hsize]; exact hl) hnews (by omega) (by omega) (by rw [hby]; exact growslice_fits (by omega) hbytes)
      rw [hr2] at hr
      simp only [Result.ok.injEq] at hr
      refine fresh _ _ ?_ hr.1.symm hr.2.symm
      intro u hu
      rw [Array.toList_append, Array.toList_append, List.mem_append, List.mem_append] at hu
      rcases hu with (hu | hu) | hu
      · rw [← htake] at hu
        exact hcur u (List.mem_of_mem_take (by simpa using hu))
      · exact hnc u (by simpa using hu)
      · exact hzc u (zeros_in hzs0 hu)

/-- The block of words is none that holds no words. -/
theorem IsW.notClean {w : World} {a : Option Addr} {n c : Nat} {l : List Nat} {v : Value} {x : Nat} (h : IsW w (.slice a n c) l) (hn : n ≠ 0) (hx : (Value.slice a n c).ownBlock = some x) (hv : Clean w v) : v.ownBlock ≠ some x := by
  intro hvx
  obtain ⟨a', c', he, -, -, -, h4, -⟩ := id h
  simp only [Value.slice.injEq] at he
  obtain ⟨rfl, hnl, rfl⟩ := he
  obtain ⟨b, off, rfl, -, -⟩ := h4 (by intro e; have h9 : l = [] := (by simpa using e); rw [h9] at hnl; exact hn hnl)
  simp only [Value.ownBlock, Option.some.injEq] at hx
  subst hx
  have hc := h.cell 0 (by omega)
  have hc' : w.cell? ⟨b, off, none⟩ = some (.int .u32 (nth l 0 : Nat)) := by simpa using hc
  cases hh : w.heap[b]? with
  | none => simp [World.cell?, hh] at hc'
  | some ob =>
    cases ob with
    | cells cs e fr =>
      rw [cell_of_row _ _ _ _ _ _ hh] at hc'
      exact hv b cs e fr hvx hh _ (Array.mem_toList_iff.2 (Array.mem_of_getElem? hc')) (nth l 0) rfl
    | _ => simp [World.cell?, hh] at hc'
theorem FewF.notClean {N : Nat} {w : World} {b : Bool} {a1 a2 : Option Addr} {n1 c1 n2 c2 : Nat} {q : Rat} {v : Value} (h : FewF N w (.agg #[.bool b, .slice a1 n1 c1, .slice a2 n2 c2]) q) (hv : Clean w v) :
    (n1 ≠ 0 → ∀ x, (Value.slice a1 n1 c1).ownBlock = some x → v.ownBlock ≠ some x) ∧ (n2 ≠ 0 → ∀ x, (Value.slice a2 n2 c2).ownBlock = some x → v.ownBlock ≠ some x) := by
  obtain ⟨b', l, m, ⟨u, d, he, hu, hd⟩, -, -, -⟩ := h
  simp only [Value.agg.injEq, Array.mk.injEq, List.cons.injEq, and_true] at he
  obtain ⟨-, rfl, rfl⟩ := he
  exact ⟨fun e x hx => hu.notClean e hx hv, fun e x hx => hd.notClean e hx hv⟩
/-- A fraction stays, whatever is appended to a list that holds no words. -/
theorem FewF.grown {N : Nat} {w w' : World} {b : Bool} {a1 a2 : Option Addr} {n1 c1 n2 c2 : Nat} {q : Rat} {v : Value} (h : FewF N w (.agg #[.bool b, .slice a1 n1 c1, .slice a2 n2 c2]) q) (hv : Clean w v) (hg : w.grownBy w' v.ownBlock) :
    FewF N w' (.agg #[.bool b, .slice a1 n1 c1, .slice a2 n2 c2]) q := by
  have hn := h.notClean hv
  have hl := h.own
  exact h.keep hg.size (fun e x hx => hg.block x (hl.1 e x hx) (fun e2 => hn.1 e x hx e2.symm)) (fun e x hx => hg.block x (hl.2 e x hx) (fun e2 => hn.2 e x hx e2.symm))

/-- A list of fractions of the call's own; its block holds no words. -/
def LFs (N : Nat) (w : World) (base : Nat) (v : Value) (qs : List Rat) : Prop :=
  ∃ xs, w.ownsRow base 43 3 v qs.length xs ∧ Clean w v ∧ ∀ j q, qs[j]? = some q → ∃ b a1 n1 c1 a2 n2 c2, xs[j * 3]? = some (.bool b) ∧ xs[j * 3 + 1]? = some (.slice a1 n1 c1) ∧ xs[j * 3 + 2]? = some (.slice a2 n2 c2) ∧
    FewF N w (.agg #[.bool b, .slice a1 n1 c1, .slice a2 n2 c2]) q
theorem LFs.nil (N : Nat) (w : World) (base : Nat) : LFs N w base (.slice none 0 0) [] := ⟨[], World.ownsRow_nil w base _ 3, fun _ _ _ _ h => by simp [Value.ownBlock] at h, fun j q h => by simp at h⟩
theorem LFs.lt {N : Nat} {w : World} {base : Nat} {v : Value} {qs : List Rat} (h : LFs N w base v qs) : ∀ g, v.ownBlock = some g → base ≤ g ∧ g < w.heap.size := by
  obtain ⟨xs, ho, -⟩ := h
  exact fun g hg => World.ownsRow.lt ho g hg
/-- A list stays, where its block and its words stay. -/
theorem LFs.grown {N : Nat} {w w' : World} {base : Nat} {v : Value} {qs : List Rat} {row : Option Nat} (h : LFs N w base v qs) (hg : w.grownBy w' row) (hne : ∀ g, v.ownBlock = some g → row ≠ some g) (hv : ∀ b a1 n1 c1 a2 n2 c2 q, FewF N w (.agg #[.bool b, .slice a1 n1 c1, .slice a2 n2 c2]) q → FewF N w' (.agg #[.bool b, .slice a1 n1 c1, .slice a2 n2 c2]) q) : LFs N w' base v qs := by
  have hlt := h.lt
  obtain ⟨xs, ho, hc, he⟩ := h
  refine ⟨xs, World.ownsRow.kept (row := row) ho hg (by
    cases hb : v.ownBlock with
    | none => simp
    | some g => exact Or.inr (fun e => hne g hb e.symm)), ?_, fun j q hq => ?_⟩
  · intro g cs e fr hb hh
    rw [hg.block g (hlt g hb).2 (fun e => hne g hb e.symm)] at hh
    exact hc g cs e fr hb hh
  · obtain ⟨b, a1, n1, c1, a2, n2, c2, h0, h1, h2, hf⟩ := he j q hq
    exact ⟨b, a1, n1, c1, a2, n2, c2, h0, h1, h2, hv _ _ _ _ _ _ _ _ hf⟩
theorem LFs.below {N : Nat} {w w' : World} {base : Nat} {v : Value} {qs : List Rat} (h : LFs N w base v qs) (hb : Below w.heap.size w w') : LFs N w' base v qs :=
  h.grown (row := none) ⟨hb.os, hb.tape, hb.output, hb.size, fun k hk _ => hb.block k hk⟩ (fun g _ e => by cases e) (fun _ _ _ _ _ _ _ _ hf => hf.below hb)
theorem LFs.list {N : Nat} {w : World} {base : Nat} {v : Value} {qs : List Rat} (h : LFs N w base v qs) : ListF N w v qs := by
  obtain ⟨xs, ho, -, he⟩ := h
  have hcells := fun g hg => World.ownsRow.cells ho (g := g) hg
  rcases ho.2 with ⟨rfl, h0⟩ | ⟨g, cap, cur, rfl, _, _, _, _, _, _⟩
  · refine ⟨none, 0, by rw [h0], fun i q hq => ?_⟩
    have := List.eq_nil_of_length_eq_zero h0
    subst this
    simp at hq
  · refine ⟨_, cap, rfl, fun i q hq => ?_⟩
    obtain ⟨b, a1, n1, c1, a2, n2, c2, h0, h1, h2, hf⟩ := he i q hq
    have k0 := hcells g rfl _ _ h0
    have k1 := hcells g rfl _ _ h1
    have k2 := hcells g rfl _ _ h2
    rw [Addr.add_lit] at k0 k1 k2
    exact ⟨g, 0, b, a1, n1, c1, a2, n2, c2, rfl, k0, by rw [Nat.add_assoc]; exact k1, by rw [Nat.add_assoc]; exact k2, hf⟩
theorem LFs.clean {N : Nat} {w : World} {base : Nat} {v : Value} {qs : List Rat} (h : LFs N w base v qs) : Clean w v := h.elim fun _ h => h.2.1
theorem LFs.form {N : Nat} {w : World} {base : Nat} {v : Value} {qs : List Rat} (h : LFs N w base v qs) : ∃ a c, v = .slice a qs.length c := by
  obtain ⟨xs, ho, -⟩ := h
  rcases ho.2 with ⟨rfl, h0⟩ | ⟨g, cap, cur, rfl, -⟩
  · exact ⟨none, 0, by rw [h0]⟩
  · exact ⟨_, _, rfl⟩

theorem LFs.cap {N : Nat} {w : World} {base : Nat} {v : Value} {qs : List Rat} (h : LFs N w base v qs) : ∃ a c, v = .slice a qs.length c ∧ qs.length ≤ c := by
  obtain ⟨xs, ho, -⟩ := h
  rcases ho.2 with ⟨rfl, h0⟩ | ⟨g, cap, cur, rfl, _, _, hnc, _⟩
  · exact ⟨none, 0, by rw [h0], by omega⟩
  · exact ⟨_, _, rfl, hnc⟩

/-- One more, by append. -/
theorem oper_push_frac {w : World} {o : Oper} {a : Act} {K : Act → World → Prop} {Q : Exit → Act → World → Prop} (s x : Operand)
    (ho : o.op = .call { callee := .builtin .append, args := #[s, x], argTypes := #[23, 23] }) (N base : Nat) (v : Value) (qs : List Rat) (hs : a.eval s = v) (hown : LFs N w base v qs)
    (g c : Nat) (b : Bool) (a1 a2 : Option Addr) (n1 c1 n2 c2 : Nat) (q : Rat) (hx : a.eval x = .slice (some ⟨g, 0, none⟩) 1 c) (hrow : w.heap[g]? = some (.cells #[Value.bool b, Value.slice a1 n1 c1, Value.slice a2 n2 c2] 43 (0, 0)))
    (hf : FewF N w (.agg #[.bool b, .slice a1 n1 c1, .slice a2 n2 c2]) q) (hlen : qs.length ≤ 1000000) (hbase : base ≤ w.heap.size)
    (h : ∀ v' w', LFs N w' base v' (qs ++ [q]) → w.grownBy w' v.ownBlock → (∀ W, Below base W w → Below base W w') → (v'.ownBlock = v.ownBlock ∨ v'.ownBlock = some w.heap.size) → LFs N w' base v qs → K (a.put o.dst v') w') :
    Oper.wp Tryz.prog o a w K Q := by
  obtain ⟨i0, hi0, hz0, hz1, hz2⟩ := info_parts info_frac
  have hlt := hown.lt
  have hown0 := hown
  obtain ⟨xs, hxs, hcl, hel⟩ := hown
  have hnl : [Value.bool b, Value.slice a1 n1 c1, Value.slice a2 n2 c2].length = 1 * 3 := rfl
  obtain ⟨v', w', hr, h2, h3, h4, h5, h6, h7⟩ := run_append_clean (P := Tryz.prog) (w := w) base 23 o.type 43 i0 (.agg #[Value.bool false, Value.slice none 0 0, Value.slice none 0 0]) 3 56 Tryz.underlying23 hi0 hz0 hz1 hz2 rfl (by decide) v qs.length xs hxs ⟨g, 0, none⟩ 1 c
    [Value.bool b, Value.slice a1 n1 c1, Value.slice a2 n2 c2] hnl (by
      intro j u hu
      rw [Addr.add_lit, cell_of_row _ _ _ _ _ _ hrow]
      simpa using hu) (by intro u hu; simp at hu; rcases hu with rfl | rfl | rfl <;> rfl) (by unfold maxLen; omega) (by omega) hbase (by decide)
    (by intro u hu k; simp [Value.cells] at hu; rcases hu with rfl | rfl <;> (intro e; cases e)) (by intro u hu k; simp at hu; rcases hu with rfl | rfl | rfl <;> (intro e; cases e)) hcl
  unfold Oper.wp execOp
  simp only [ho, resolve, invoke, builtin, Sem.run_bind, Sem.run_pure, Result.andThen_ok, List.map_toArray, List.map_cons, List.map_nil, hs, hx, hr]
  refine h v' w' ?_ h3 ?_ h4 ⟨xs, h6, h7, fun j r hr => ?_⟩
  · refine ⟨xs ++ [Value.bool b, Value.slice a1 n1 c1, Value.slice a2 n2 c2], by simpa using h2, h5, fun j r hr => ?_⟩
    have hxl : xs.length = qs.length * 3 := hxs.1
    by_cases hj : j < qs.length
    · rw [List.getElem?_append_left hj] at hr
      obtain ⟨b', a1', n1', c1', a2', n2', c2', e0, e1, e2, hf'⟩ := hel j r hr
      exact ⟨b', a1', n1', c1', a2', n2', c2', by rw [List.getElem?_append_left (by omega)]; exact e0, by rw [List.getElem?_append_left (by omega)]; exact e1, by rw [List.getElem?_append_left (by omega)]; exact e2, hf'.grown hcl h3⟩
    · have hjl : j = qs.length := by
        have h9 := (List.getElem?_eq_some_iff.1 hr).1
        simp at h9; omega
      subst hjl
      simp at hr
      subst hr
      refine ⟨b, a1, n1, c1, a2, n2, c2, ?_, ?_, ?_, hf.grown hcl h3⟩
      · rw [List.getElem?_append_right (by omega), hxl]; simp
      · rw [List.getElem?_append_right (by omega), hxl, show qs.length * 3 + 1 - qs.length * 3 = 1 by omega]; rfl
      · rw [List.getElem?_append_right (by omega), hxl, show qs.length * 3 + 2 - qs.length * 3 = 2 by omega]; rfl
  · intro W hW
    exact hW.grown h3 hbase (fun k hk => (hlt k hk).1)
  · obtain ⟨b', a1', n1', c1', a2', n2', c2', e0, e1, e2, hf'⟩ := hel j r hr
    exact ⟨b', a1', n1', c1', a2', n2', c2', e0, e1, e2, hf'.grown hcl h3⟩
/-- .. in a plain region. -/
theorem wpList_push_frac {w : World} {ops : Array Oper} {rest : List Oper} {o : Oper} {a : Act} {Q : Exit → Act → World → Prop} (hgd : o.guard = none) (s x : Operand)
    (ho : o.op = .call { callee := .builtin .append, args := #[s, x], argTypes := #[23, 23] }) (N base : Nat) (v : Value) (qs : List Rat) (hs : a.eval s = v) (hown : LFs N w base v qs)
    (g c : Nat) (b : Bool) (a1 a2 : Option Addr) (n1 c1 n2 c2 : Nat) (q : Rat) (hx : a.eval x = .slice (some ⟨g, 0, none⟩) 1 c) (hrow : w.heap[g]? = some (.cells #[Value.bool b, Value.slice a1 n1 c1, Value.slice a2 n2 c2] 43 (0, 0)))
    (hf : FewF N w (.agg #[.bool b, .slice a1 n1 c1, .slice a2 n2 c2]) q) (hlen : qs.length ≤ 1000000) (hbase : base ≤ w.heap.size)
    (h : ∀ v' w', LFs N w' base v' (qs ++ [q]) → w.grownBy w' v.ownBlock → (∀ W, Below base W w → Below base W w') → (v'.ownBlock = v.ownBlock ∨ v'.ownBlock = some w.heap.size) → wpList Tryz.prog ops Q rest (a.put o.dst v') w') :
    wpList Tryz.prog ops Q (o :: rest) a w :=
  wpList_plain hgd fun _ hK => oper_push_frac s x ho N base v qs hs hown g c b a1 a2 n1 c1 n2 c2 q hx hrow hf hlen hbase fun v' w' h1 h2 h3 h4 _ => hK _ _ (h v' w' h1 h2 h3 h4)
end Go.Proofs.YtafenoohjcpjgaaGreat

/- Readers, and sums of what they read times numbers. -/
namespace Go.Proofs.YtafenoohjcpjgaaGreat
open Go.RowKit
attribute [local go_sem ↓] Go.wp_at_zero Go.wp_at_succ

/-- What a reader tells: a fraction whose words lay there before. -/
def ReadPost (N : Nat) (w0 w : World) (q : Rat) (e : Ending) (w' : World) : Prop :=
  (∃ b a1 n1 c1 a2 n2 c2, e = .returned (.agg #[.bool b, .slice a1 n1 c1, .slice a2 n2 c2]) ∧ FewF N w0 (.agg #[.bool b, .slice a1 n1 c1, .slice a2 n2 c2]) q) ∧ Below w.heap.size w w'

set_option maxRecDepth 8000 in
set_option maxHeartbeats 2000000 in
theorem entries1_w {N : Nat} {w0 w : World} {p : Nat} {a : Option Addr} {n c i : Nat} {qs : List Rat} (hb : Below w0.heap.size w0 w) (hp : w.cell? ⟨p, 0, none⟩ = some (.slice a n c)) (hl : ListF N w0 (.slice a n c) qs) (hi : i < n) :
    Calls Tryz.prog 54 #[.int .i64 (i : Nat), .pointer (some ⟨p, 0, none⟩)] w (ReadPost N w0 w (nthQ qs i)) := by
  obtain ⟨q, B, off, b, a1, n1, c1, a2, n2, c2, hq, rfl, hc, hf⟩ := hl.at hi
  rw [nthQ_of hq]
  have HF := Lib.hid hf
  obtain ⟨x0, x1, x2⟩ := hc w hb
  have hlt1 := cell_lt hp
  have hlt2 := cell_lt x0
  clear hl hc hf hq hb
  go_enter Tryz.func54, Tryz.ntmps54
  go_wp2_with fail
  exact bodyPost_ret (results_cell_row rfl _ _ w.heap.size _ _ _ _ rfl (heap_alloc_new w _) Tryz.underlying43 rfl ifrac) rfl ⟨⟨_, _, _, _, _, _, _, rfl, HF.out⟩, (Below.refl _ _).alloc (Nat.le_refl _) _⟩

end Go.Proofs.YtafenoohjcpjgaaGreat

/- Value, of the program and of the reference. -/
namespace Go.Proofs.YtafenoohjcpjgaaGreat
open Go.RowKit
attribute [local go_sem ↓] Go.wp_at_zero Go.wp_at_succ

/-- A fraction of at most n words in all. -/
def SzF (n : Nat) (w : World) (v : Value) (q : Rat) : Prop := ∃ b l m, RawF w v b l m ∧ q = fixR b l m ∧ l.length + m.length ≤ n
theorem FewF.sz {n : Nat} {w : World} {v : Value} {q : Rat} (h : FewF n w v q) : SzF (2 * n) w v q := by
  obtain ⟨b, l, m, h1, h2, h3, h4⟩ := h
  exact ⟨b, l, m, h1, h2, by omega⟩
theorem FracV.sz {n : Nat} {w : World} {v : Value} {q : Rat} (h : FracV w v q) (hn : lenQ q ≤ n) (hl : lenQ q ≤ 4096) : SzF n w v q := by
  obtain ⟨u, d, rfl, hu, hd⟩ := h
  exact ⟨_, _, _, ⟨_, _, rfl, hu, hd⟩, (fix_digs hl).symm, hn⟩
theorem SzF.below {n : Nat} {w w' : World} {v : Value} {q : Rat} (h : SzF n w v q) (hb : Below w.heap.size w w') : SzF n w' v q := by
  obtain ⟨b, l, m, h1, h2⟩ := h
  exact ⟨b, l, m, h1.below hb, h2⟩
theorem rcmp_s {n m : Nat} {w : World} {x y : Value} {P S : Rat} (hx : SzF n w x P) (hy : SzF m w y S) (hn : n ≤ 4096) (hm : m ≤ 4096) :
    Calls Tryz.prog 66 #[x, y] w fun e w' => e = .returned (.int .i64 (cmpQ P S)) ∧ Below w.heap.size w w' := by
  obtain ⟨b, l, k, h1, rfl, hl1⟩ := hx
  obtain ⟨b', l', k', h2, rfl, hl2⟩ := hy
  exact rcmp_w h1 h2 (by omega) (by omega)

set_option maxRecDepth 8000 in
theorem entries_w {w : World} {a : Option Addr} {n c : Nat} :
    Calls Tryz.prog 21 #[.slice a n c] w fun e w' => (∃ g, e = .returned (.func (.func 54) #[] #[.pointer (some ⟨g, 0, none⟩)]) ∧ w'.cell? ⟨g, 0, none⟩ = some (.slice a n c)) ∧ Below w.heap.size w w' := by
  have hmf : ∀ (fn : Fn) (first cap : Array Value) (w : World), (Instr.makeFunc fn first cap).run Tryz.prog w = .ok (.func fn first cap) w := fun _ _ _ _ => rfl
  go_enter Tryz.func21, Tryz.ntmps21
  go_wp2_with fail
  go_ret
  exact ⟨⟨_, rfl, by rw [cell_of_row _ _ _ _ _ _ (heap_alloc_new w _)]; rfl⟩, (Below.refl _ _).alloc (Nat.le_refl _) _⟩

theorem zero_make : makeQ 0 1 = 0 := by decide +kernel
theorem right_0 {P : Pm} (h : rightB2 P = true) : rightP P = 0 := by unfold rightP; rw [h]; rfl
theorem right_20 {P : Pm} (h : rightB2 P = false) : rightP P = 20 := by unfold rightP; rw [h]; rfl
theorem right_goal {P : Pm} (h : rightB2 P = true) : (P.goal.length : Int) = P.vars ∧ (P.free.length : Int) = P.vars ∧ 1 ≤ P.vars := by
  have h1 : headP P = true := by unfold rightB2 at h; simp only [Bool.and_eq_true] at h; exact h.1
  simp only [headP, decide_eq_true_eq] at h1
  exact ⟨h1.2.2, h1.2.1, h1.1⟩

end Go.Proofs.YtafenoohjcpjgaaGreat

/- Fits, of the program and of the reference: what they ask of a row and of the signs. -/
namespace Go.Proofs.YtafenoohjcpjgaaGreat
open Go.RowKit
attribute [local go_sem ↓] Go.wp_at_zero Go.wp_at_succ

theorem BoolsF.at {w : World} {a : Option Addr} {bs : List Bool} (h : BoolsF w a bs) {i : Nat} (hi : i < bs.length) :
    ∃ b B off, bs[i]? = some b ∧ a = some ⟨B, off, none⟩ ∧ ∀ w', Below w.heap.size w w' → w'.cell? ⟨B, off + i, none⟩ = some (.bool b) := by
  obtain ⟨B, off, ha, hc⟩ := h i _ (List.getElem?_eq_getElem hi)
  exact ⟨bs[i], B, off, List.getElem?_eq_getElem hi, ha, fun w' hb => cell_below hb hc⟩

end Go.Proofs.YtafenoohjcpjgaaGreat

/- Fits, of the program and of the reference. -/
namespace Go.Proofs.YtafenoohjcpjgaaGreat
open Go.RowKit
attribute [local go_sem ↓] Go.wp_at_zero Go.wp_at_succ

theorem row_len {P : Pm} (h : rightB2 P = true) {i : Nat} {r : List Rat × Int × Rat} (hr : P.rows[i]? = some r) : (r.1.length : Int) = P.vars := by
  unfold rightB2 at h
  simp only [Bool.and_eq_true] at h
  have h9 := (List.all_eq_true.1 h.2) r (List.mem_of_getElem? hr)
  simp only [okRow, decide_eq_true_eq] at h9
  exact h9.1
end Go.Proofs.YtafenoohjcpjgaaGreat

/- Sums of what readers of right sides and of columns read, times numbers. -/
namespace Go.Proofs.YtafenoohjcpjgaaGreat
open Go.RowKit
attribute [local go_sem ↓] Go.wp_at_zero Go.wp_at_succ

end Go.Proofs.YtafenoohjcpjgaaGreat

/- Rows of values of three cells each: made, stored into. -/
namespace Go.Proofs.YtafenoohjcpjgaaGreat
open Go.RowKit

/-- A block of n values of three cells each. -/
def Row3 (w : World) (B : Nat) (e : TypeId) (n : Nat) (f : Nat → Value × Value × Value) : Prop :=
  ∃ c : Array Value, w.heap[B]? = some (.cells c e (0, 0)) ∧ c.size = n * 3 ∧ ∀ i, i < n → c[i * 3]? = some (f i).1 ∧ c[i * 3 + 1]? = some (f i).2.1 ∧ c[i * 3 + 2]? = some (f i).2.2
theorem Row3.below {w w' : World} {B n N : Nat} {e : TypeId} {f : Nat → Value × Value × Value} (h : Row3 w B e n f) (hB : B < N) (hb : Below N w w') : Row3 w' B e n f := by
  obtain ⟨c, h1, h2, h3⟩ := h
  exact ⟨c, (hb.block B hB).trans h1, h2, h3⟩
theorem Row3.only {w w' : World} {B D n : Nat} {e : TypeId} {f : Nat → Value × Value × Value} (h : Row3 w B e n f) (hne : B ≠ D) (hb : Only D w w') : Row3 w' B e n f := by
  obtain ⟨c, h1, h2, h3⟩ := h
  exact ⟨c, (hb.block B hne).trans h1, h2, h3⟩
theorem Row3.lt {w : World} {B n : Nat} {e : TypeId} {f : Nat → Value × Value × Value} (h : Row3 w B e n f) : B < w.heap.size := by
  obtain ⟨c, h1, -, -⟩ := h
  exact (Array.getElem?_eq_some_iff.1 h1).1
theorem Row3.cell {w : World} {B n : Nat} {e : TypeId} {f : Nat → Value × Value × Value} (h : Row3 w B e n f) {i : Nat} (hi : i < n) :
    w.cell? ⟨B, i * 3, none⟩ = some (f i).1 ∧ w.cell? ⟨B, i * 3 + 1, none⟩ = some (f i).2.1 ∧ w.cell? ⟨B, i * 3 + 2, none⟩ = some (f i).2.2 := by
  obtain ⟨c, h1, -, h3⟩ := h
  obtain ⟨k0, k1, k2⟩ := h3 i hi
  exact ⟨by rw [cell_of_row _ _ _ _ _ _ h1]; exact k0, by rw [cell_of_row _ _ _ _ _ _ h1]; exact k1, by rw [cell_of_row _ _ _ _ _ _ h1]; exact k2⟩

theorem made3 (z0 z1 z2 : Value) (m k : Nat) (hk : k < m) : (madeCells #[z0, z1, z2] m)[k]? = some (if k % 3 = 0 then z0 else if k % 3 = 1 then z1 else z2) := by
  unfold madeCells
  rw [Array.getElem?_map, Array.getElem?_range, if_pos hk]
  simp only [Option.map_some, Option.some.injEq]
  have h3 : k % 3 < 3 := Nat.mod_lt _ (by omega)
  have hs : (#[z0, z1, z2] : Array Value).size = 3 := rfl
  rw [hs]
  rcases (by omega : k % 3 = 0 ∨ k % 3 = 1 ∨ k % 3 = 2) with e | e | e <;> rw [e] <;> simp

theorem wpList_make_three {P : Program} {w : World} {ops : Array Oper} {rest : List Oper} {o : Oper} {a : Act} {Q : Exit → Act → World → Prop}
    (hg : o.guard = none) (l c : Operand) (t e : TypeId) (hop : o.op = Op.makeSlice t l c) (h1 : P.underlying t = some (.slice e)) (z0 z1 z2 : Value) (by_ : Nat)
    (h2 : (P.info? e).map (fun i => (i.zero, i.size, i.bytes)) = some (some (.agg #[z0, z1, z2]), 3, by_)) (n : Nat) (hl : a.eval l = .int .i64 n) (hc : a.eval c = .int .i64 n) (hn : n ≤ 1073741824) (hby : by_ ≤ 4096)
    (hK : ∀ w', Row3 w' w.heap.size e n (fun _ => (z0, z1, z2)) → Below w.heap.size w w' → Hid (w'.heap.size = w.heap.size + 1) → wpList P ops Q rest (a.put o.dst (.slice (some ⟨w.heap.size, 0, none⟩) n n)) w') :
    wpList P ops Q (o :: rest) a w := by
  obtain ⟨i, hi, hz, hs, hb⟩ := info_parts h2
  refine wpList_plain hg fun K hK' => ?_
  have hbn : i.bytes * n ≤ 4096 * 1073741824 := Nat.mul_le_mul (by omega) hn
  have hr := run_make (P := P) w t e i _ h1 hi hz .i64 .i64 n n (by omega) (Int.le_refl _) (by have : ((i.bytes * n : Nat) : Int) ≤ 4398046511104 := by omega
                                                                                               rw [Int.natCast_mul] at this; omega) (by omega)
  simp only [Int.toNat_natCast, hs, Value.cells] at hr
  unfold Oper.wp
  simp [execOp, hop, hl, hc, hr, Result.andThen]
  refine hK' _ _ (hK _ ?_ ((Below.refl _ _).alloc (Nat.le_refl _) _) (Lib.hid (by simp)))
  refine ⟨_, heap_alloc_new w _, size_madeCells _ _, fun i hi => ⟨?_, ?_, ?_⟩⟩
  · rw [made3 _ _ _ _ _ (by omega), if_pos (by omega)]
  · rw [made3 _ _ _ _ _ (by omega), if_neg (by omega), if_pos (by omega)]
  · rw [made3 _ _ _ _ _ (by omega), if_neg (by omega), if_neg (by omega)]

theorem run_storeVar_at {P : Program} (w : World) (g off : Nat) (t ty : TypeId) (cur vs : Array Value) (hg : w.heap[g]? = some (.cells cur t (0, 0))) (hi : (P.info? ty).map (·.size) = some vs.size) (hs : off + vs.size ≤ cur.size) (h1 : ∀ v ∈ vs.toList, v.oneCell' = true) :
    (storeVar ty ⟨g, off, none⟩ (.agg vs)).run P w = .ok () (w.setRow g (cur.toList.take off ++ vs.toList ++ cur.toList.drop (off + vs.size)).toArray) := by
  have h := run_storeCells_at (P := P) g off t vs.toList 0 cur w hg (by simpa using hs) h1
  rw [Nat.add_zero] at h
  cases hq : P.info? ty with
  | none => simp [hq] at hi
  | some i =>
    have hsz : i.size = vs.size := by simpa [hq] using hi
    simp [storeVar, Sem.run_bind, sizeOf, typeInfo, hq, hsz, Value.cells, h]

/-- A value of three cells, stored into a row. -/
theorem wpList_store_three {P : Program} {ops : Array Oper} {rest : List Oper} {o : Oper} {a : Act} {w : World} {Q : Exit → Act → World → Prop} (hgd : o.guard = none) (ty : TypeId) (x y : Operand) (ho : o.op = .store ty x y)
    (g n k : Nat) (hx : a.eval x = .pointer (some ⟨g, k * 3, none⟩)) (v0 v1 v2 : Value) (hy : a.eval y = .agg #[v0, v1, v2]) (t : TypeId) (f : Nat → Value × Value × Value) (hg : Row3 w g t n f) (hk : k < n)
    (hi : (P.info? ty).map (·.size) = some 3) (h1 : ∀ v ∈ (#[v0, v1, v2] : Array Value).toList, v.oneCell' = true)
    (h : ∀ w', Row3 w' g t n (fun j => if j = k then (v0, v1, v2) else f j) → Only g w w' → wpList P ops Q rest (a.put o.dst undef) w') : wpList P ops Q (o :: rest) a w := by
  obtain ⟨cur, hc, hn, hf⟩ := hg
  refine wpList_plain hgd fun K hK => ?_
  unfold Oper.wp execOp
  have hr := run_storeVar_at (P := P) w g (k * 3) t ty cur #[v0, v1, v2] hc hi (by simp; omega) h1
  simp only [ho, hx, hy, Instr.storeAt, Instr.sureAddr, Sem.run_bind, Sem.run_pure, Result.andThen_ok, hr]
  refine hK _ _ (h _ ⟨_, setRow_heap w g cur _ t _ hc, ?_, fun i hi => ?_⟩ ⟨rfl, rfl, rfl, by simp [World.setRow], fun k hk => setRow_other w g k _ hk⟩)
  · simp; omega
  · have ht : (cur.toList.take (k * 3)).length = k * 3 := by simp; omega
    have hget : ∀ m, (cur.toList.take (k * 3) ++ (#[v0, v1, v2] : Array Value).toList ++ cur.toList.drop (k * 3 + 3)).toArray[m]? = if m < k * 3 then cur[m]? else if m < k * 3 + 3 then [v0, v1, v2][m - k * 3]? else cur[m]? := by
      intro m
      rw [List.getElem?_toArray, List.append_assoc]
      by_cases h1 : m < k * 3
      · rw [if_pos h1, List.getElem?_append_left (by omega), List.getElem?_take_of_lt h1]; simp
      · rw [if_neg h1, List.getElem?_append_right (by omega), ht]
        by_cases h2 : m < k * 3 + 3
        · rw [if_pos h2, List.getElem?_append_left (by simp; omega)]
        · rw [if_neg h2, List.getElem?_append_right (by simp; omega), List.getElem?_drop]
          rw [show k * 3 + 3 + (m - k * 3 - (#[v0, v1, v2] : Array Value).toList.length) = m by simp; omega]
          simp
    obtain ⟨e0, e1, e2⟩ := hf i hi
    have hsz : (#[v0, v1, v2] : Array Value).size = 3 := rfl
    rw [hsz, hget, hget, hget]
    by_cases hik : i = k
    · subst hik
      simp only [↓reduceIte]
      rw [if_neg (by omega), if_pos (by omega), if_neg (by omega), if_pos (by omega), if_neg (by omega), if_pos (by omega)]
      rw [Nat.sub_self, show i * 3 + 1 - i * 3 = 1 by omega, show i * 3 + 2 - i * 3 = 2 by omega]
      exact ⟨rfl, rfl, rfl⟩
    · simp only [if_neg hik]
      by_cases hlt : i < k
      · rw [if_pos (by omega), if_pos (by omega), if_pos (by omega)]
        exact ⟨e0, e1, e2⟩
      · rw [if_neg (by omega), if_neg (by omega), if_neg (by omega), if_neg (by omega), if_neg (by omega), if_neg (by omega)]
        exact ⟨e0, e1, e2⟩
end Go.Proofs.YtafenoohjcpjgaaGreat
