import Derived.Test.YtkkbmlkpgknhgaaGreatZ12
import Derived.Maps.AppendAt
import Derived.Test.YtkkbmlkpgknhgaaGreatZ13
import Derived.Deep.DrawnRows
set_option maxRecDepth 100000
set_option maxHeartbeats 16000000
namespace Go.Proofs.YtkkbmlkpgknhgaaGreat
open Go.RowKit
variable {N base c c1 c2 n n1 n2 p : Nat} {P : Pm} {W w w' w'' : World} {a a1 a2 : Option Addr} {a' av bv v x : Value} {b : Bool} {ps qs rs xs : List Rat} {q : Rat}
def NoU (u : Value) : Prop := ∀ k : Nat, u ≠ U k
def Clean (w : World) (v : Value) : Prop := ∀ g cs e fr, v.ownBlock = some g → w.heap[g]? = some (.cells cs e fr) → ∀ u ∈ cs.toList, NoU u
theorem v2j {z : Array Value} {u : Value} (hs : 0 < z.size) (h : u ∈ (Builtin.zeroCells z n).toList) : u ∈ z.toList := by
 simp only [Builtin.zeroCells, Array.toList_map, List.mem_map, Array.mem_toList_iff] at h
 obtain ⟨i, -, rfl⟩ := h
 rw [getElem!_pos z (i % z.size) (Nat.mod_lt _ hs)]
 exact Array.mem_toList_iff.2 (Array.getElem_mem _)

theorem f1q {P : Program} (base : Nat) (t ty e : TypeId) (i : TypeInfo) (z : Value) (size bytes : Nat) (ht : P.underlying t = some (.slice e)) (hi : P.info? e = some i) (hz : i.zero = some z)
  (hsize : i.size = size) (hby : i.bytes = bytes) (hzs : z.cells.size = size) (hsz : 0 < size)
  (v : Value) (n : Nat) (xs : List Value) (hown : w.ownsRow base e size v n xs)
  (a : Addr) (m c : Nat) (news : List Value) (hl : news.length = m * size) (hnews : ∀ j u, news[j]? = some u → w.cell? (a.add j) = some u) (h1 : ∀ u ∈ news, u.oneCell' = true)
  (h63 : n + m ≤ maxLen) (hbytes : (n + m) * bytes ≤ 140737488355328) (hbase : base ≤ w.heap.size) (hm : 0 < m)
  (hzc : ∀ u ∈ z.cells.toList, NoU u) (hnc : ∀ u ∈ news, NoU u) (hcl : Clean w v) :
  ∃ v' w', (Builtin.append_ #[t, t] ty #[v, .slice (some a) m c]).run P w = .ok v' w' ∧ w'.ownsRow base e size v' (n + m) (xs ++ news) ∧ w.grownBy w' v.ownBlock ∧
   (v'.ownBlock = v.ownBlock ∨ v'.ownBlock = some w.heap.size) ∧ Clean w' v' ∧ w'.ownsRow base e size v n xs ∧ Clean w' v := by
 obtain ⟨v', w', hr, ho, hg, -, hat⟩ := run_append_own_at (P := P) (w := w) base t ty e i z size bytes ht hi hz hsize hby hzs hsz v n xs hown a m c news hl hnews h1 h63 hbytes hbase
 refine ⟨v', w', hr, ho, hg, hat, ?_⟩
 have hsmall : n + m ≤ 9223372036854775807 := by simp only [maxLen] at h63; omega
 have fresh : ∀ (cs : Array Value) (k : Nat), (∀ u ∈ cs.toList, NoU u) → v' = .slice (some ⟨w.heap.size, 0, none⟩) (n + m) k → w' = w.drew.alloc (.cells cs e) → Clean w' v' ∧ w'.ownsRow base e size v n xs ∧ Clean w' v := by
  rintro cs k hcs rfl rfl
  have hold : ∀ k, k < w.heap.size → (w.drew.alloc (.cells cs e)).heap[k]? = w.heap[k]? := fun k hk => heap_alloc_old (r := k) w.drew _ hk
  refine ⟨?_, World.ownsRow.kept (row := none) hown ⟨rfl, rfl, rfl, by simp, fun k hk _ => hold k hk⟩ (by cases hv : v.ownBlock <;> simp), fun g cs' e' fr' hb hh => hcl g cs' e' fr' hb (by rw [← hold g (World.ownsRow.lt hown g hb).2]; exact hh)⟩
  intro g cs' e' fr' hb hh u hu
  simp only [Value.ownBlock, Option.some.injEq] at hb
  subst hb
  have h9 : (w.drew.alloc (.cells cs e)).heap[w.heap.size]? = some (.cells cs e (0, 0)) := heap_alloc_new w.drew _
  rw [h9] at hh
  simp only [Option.some.injEq, Obj.cells.injEq] at hh
  obtain ⟨rfl, -, -⟩ := hh
  exact hcs u hu
 have hzs0 : 0 < z.cells.size := by omega
 rcases hown.2 with ⟨rfl, rfl⟩ | ⟨g, cap, cur, rfl, hbg, hh, hnc', hcm, hcs, htake⟩
 ·
  have hx : xs = [] := List.eq_nil_of_length_eq_zero (by simpa using hown.1)
  subst hx
  have hr2 := run_append_nil (P := P) (w := w) t ty e i z ht hi hz a m c news (by rw [hsize]; exact hl) hnews hm (by omega) (by rw [hby]; have hb := hbytes; simp only [Nat.zero_add] at hb; omega)
  rw [hr2] at hr
  simp only [Result.ok.injEq] at hr
  refine fresh _ _ ?_ (by rw [Nat.zero_add]; exact hr.1.symm) hr.2.symm
  intro u hu
  rw [Array.toList_append, List.mem_append] at hu
  rcases hu with hu | hu
  ·
   exact hnc u (by simpa using hu)
  ·
   exact hzc u (v2j hzs0 hu)
 ·
  have hcur : ∀ u ∈ cur.toList, NoU u := hcl g cur e (0, 0) rfl hh
  by_cases hroom : n + m ≤ cap
  ·
   have hfit : n * i.size + news.length ≤ cur.size := by rw [hl, hcs, hsize, ← Nat.add_mul]; exact Nat.mul_le_mul_right _ hroom
   have hr2 := run_append_room (P := P) (w := w) t ty e i ht hi g n cap cur hh a m c news (by rw [hsize]; exact hl) hnews h1 hroom hfit
   rw [hr2] at hr
   simp only [Result.ok.injEq] at hr
   obtain ⟨rfl, rfl⟩ := hr
   have hcl2 : ∀ g' cs' e' fr', some g = some g' → (w.setRow g (cur.toList.take (n * i.size) ++ news ++ cur.toList.drop (n * i.size + news.length)).toArray).heap[g']? = some (.cells cs' e' fr') → ∀ u ∈ cs'.toList, NoU u := by
    intro g' cs' e' fr' hb hh' u hu
    simp only [Option.some.injEq] at hb
    subst hb
    rw [setRow_heap w g cur _ e _ hh] at hh'
    simp only [Option.some.injEq, Obj.cells.injEq] at hh'
    obtain ⟨rfl, -, -⟩ := hh'
    simp only [List.mem_append] at hu
    rcases hu with (hu | hu) | hu
    ·
     exact hcur u (List.mem_of_mem_take hu)
    ·
     exact hnc u hu
    ·
     exact hcur u (List.mem_of_mem_drop hu)
   refine ⟨fun g' cs' e' fr' hb => hcl2 g' cs' e' fr' hb, ⟨hown.1, .inr ⟨g, cap, _, rfl, hbg, setRow_heap w g cur _ e _ hh, hnc', hcm, ?_, ?_⟩⟩, fun g' cs' e' fr' hb => hcl2 g' cs' e' fr' hb⟩
   ·
    simp only [List.size_toArray, List.length_append, List.length_take, List.length_drop, Array.length_toList]
    omega
   ·
    have hlen : (cur.toList.take (n * i.size)).length = n * size := by rw [List.length_take, Array.length_toList, hsize]; have := Nat.mul_le_mul_right size hnc'; omega
    rw [List.append_assoc, ← hlen, List.take_left]
    rw [hsize]; exact htake
  ·
   have holds : ∀ j u, xs[j]? = some u → w.cell? ((⟨g, 0, none⟩ : Addr).add j) = some u := hown.cells (g := g) rfl
   have hr2 := run_append_grow (P := P) (w := w) t ty e i z ht hi hz ⟨g, 0, none⟩ n cap xs (by rw [hsize]; exact hown.1) holds a m c news (by rw [hsize]; exact hl) hnews (by omega) (by omega) (by rw [hby]; exact growslice_fits (by omega) hbytes)
   rw [hr2] at hr
   simp only [Result.ok.injEq] at hr
   refine fresh _ _ ?_ hr.1.symm hr.2.symm
   intro u hu
   rw [Array.toList_append, Array.toList_append, List.mem_append, List.mem_append] at hu
   rcases hu with (hu | hu) | hu
   ·
    rw [← htake] at hu
    exact hcur u (List.mem_of_mem_take (by simpa using hu))
   ·
    exact hnc u (by simpa using hu)
   ·
    exact hzc u (v2j hzs0 hu)

theorem IsW.notClean {l : List Nat} {x : Nat} (h : IsW w (.slice a n c) l) (hn : n ≠ 0) (hx : (Value.slice a n c).ownBlock = some x) (hv : Clean w v) : v.ownBlock ≠ some x := by
 intro hvx
 obtain ⟨a', c', he, -, -, -, h4, -⟩ := id h
 simp only [Value.slice.injEq] at he
 obtain ⟨rfl, hnl, rfl⟩ := he
 obtain ⟨b, off, rfl, -, -⟩ := h4 (by intro e; have h9 : l = [] := (by simpa using e); rw [h9] at hnl; exact hn hnl)
 simp only [Value.ownBlock, Option.some.injEq] at hx
 subst hx
 have hc := h.cell 0 (by omega)
 have hc' : w.cell? ⟨b, off, none⟩ = some (.int .u32 (nth l 0 : Nat)) := by simpa using hc
 cases hh : w.heap[b]? with
 | none => simp [World.cell?, hh] at hc'
 | some ob =>
  cases ob with
  | cells cs e fr =>
   rw [cell_of_row _ _ _ _ _ _ hh] at hc'
   exact hv b cs e fr hvx hh _ (Array.mem_toList_iff.2 (Array.mem_of_getElem? hc')) (nth l 0) rfl
  | _ => simp [World.cell?, hh] at hc'
theorem v6q.notClean (h : v6q N w (.agg #[.bool b, .slice a1 n1 c1, .slice a2 n2 c2]) q) (hv : Clean w v) :
  (n1 ≠ 0 → ∀ x, (Value.slice a1 n1 c1).ownBlock = some x → v.ownBlock ≠ some x) ∧ (n2 ≠ 0 → ∀ x, (Value.slice a2 n2 c2).ownBlock = some x → v.ownBlock ≠ some x) := by
 obtain ⟨b', l, m, ⟨u, d, he, hu, hd⟩, -, -, -⟩ := h
 simp only [Value.agg.injEq, Array.mk.injEq, List.cons.injEq, and_true] at he
 obtain ⟨-, rfl, rfl⟩ := he
 exact ⟨fun e x hx => hu.notClean e hx hv, fun e x hx => hd.notClean e hx hv⟩
theorem v6q.grown (h : v6q N w (.agg #[.bool b, .slice a1 n1 c1, .slice a2 n2 c2]) q) (hv : Clean w v) (hg : w.grownBy w' v.ownBlock) :
  v6q N w' (.agg #[.bool b, .slice a1 n1 c1, .slice a2 n2 c2]) q := by
 have hn := h.notClean hv
 have hl := h.own
 exact h.keep hg.size (fun e x hx => hg.block x (hl.1 e x hx) (fun e2 => hn.1 e x hx e2.symm)) (fun e x hx => hg.block x (hl.2 e x hx) (fun e2 => hn.2 e x hx e2.symm))

def LFs (N : Nat) (w : World) (base : Nat) (v : Value) (qs : List Rat) : Prop :=
 ∃ xs, w.ownsRow base 43 3 v qs.length xs ∧ Clean w v ∧ ∀ j q, qs[j]? = some q → ∃ b a1 n1 c1 a2 n2 c2, xs[j * 3]? = some (.bool b) ∧ xs[j * 3 + 1]? = some (.slice a1 n1 c1) ∧ xs[j * 3 + 2]? = some (.slice a2 n2 c2) ∧
  v6q N w (.agg #[.bool b, .slice a1 n1 c1, .slice a2 n2 c2]) q
theorem LFs.nil (N : Nat) (w : World) (base : Nat) : LFs N w base (.slice none 0 0) [] := ⟨[], World.ownsRow_nil w base _ 3, fun _ _ _ _ h => by simp [Value.ownBlock] at h, fun j q h => by simp at h⟩
theorem LFs.lt (h : LFs N w base v qs) : ∀ g, v.ownBlock = some g → base ≤ g ∧ g < w.heap.size := by
 obtain ⟨xs, ho, -⟩ := h
 exact fun g hg => World.ownsRow.lt ho g hg
theorem LFs.grown {row : Option Nat} (h : LFs N w base v qs) (hg : w.grownBy w' row) (hne : ∀ g, v.ownBlock = some g → row ≠ some g) (hv : ∀ b a1 n1 c1 a2 n2 c2 q, v6q N w (.agg #[.bool b, .slice a1 n1 c1, .slice a2 n2 c2]) q → v6q N w' (.agg #[.bool b, .slice a1 n1 c1, .slice a2 n2 c2]) q) : LFs N w' base v qs := by
 have hlt := h.lt
 obtain ⟨xs, ho, hc, he⟩ := h
 refine ⟨xs, World.ownsRow.kept (row := row) ho hg (by
  cases hb : v.ownBlock with
  | none => simp
  | some g => exact Or.inr (fun e => hne g hb e.symm)), ?_, fun j q hq => ?_⟩
 ·
  intro g cs e fr hb hh
  rw [hg.block g (hlt g hb).2 (fun e => hne g hb e.symm)] at hh
  exact hc g cs e fr hb hh
 ·
  obtain ⟨b, a1, n1, c1, a2, n2, c2, h0, h1, h2, hf⟩ := he j q hq
  exact ⟨b, a1, n1, c1, a2, n2, c2, h0, h1, h2, hv _ _ _ _ _ _ _ _ hf⟩
theorem LFs.below (h : LFs N w base v qs) (hb : Below w.heap.size w w') : LFs N w' base v qs :=
 h.grown (row := none) ⟨hb.os, hb.tape, hb.output, hb.size, fun k hk _ => hb.block k hk⟩ (fun g _ e => by cases e) (fun _ _ _ _ _ _ _ _ hf => hf.below hb)
theorem LFs.list (h : LFs N w base v qs) : z1q N w v qs := by
 obtain ⟨xs, ho, -, he⟩ := h
 have hcells := fun g hg => World.ownsRow.cells ho (g := g) hg
 rcases ho.2 with ⟨rfl, h0⟩ | ⟨g, cap, cur, rfl, _, _, _, _, _, _⟩
 ·
  refine ⟨none, 0, by rw [h0], fun i q hq => ?_⟩
  have := List.eq_nil_of_length_eq_zero h0
  subst this
  simp at hq
 ·
  refine ⟨_, cap, rfl, fun i q hq => ?_⟩
  obtain ⟨b, a1, n1, c1, a2, n2, c2, h0, h1, h2, hf⟩ := he i q hq
  have k0 := hcells g rfl _ _ h0
  have k1 := hcells g rfl _ _ h1
  have k2 := hcells g rfl _ _ h2
  rw [Addr.add_lit] at k0 k1 k2
  exact ⟨g, 0, b, a1, n1, c1, a2, n2, c2, rfl, k0, by rw [Nat.add_assoc]; exact k1, by rw [Nat.add_assoc]; exact k2, hf⟩
theorem LFs.clean (h : LFs N w base v qs) : Clean w v := h.elim fun _ h => h.2.1
theorem LFs.form (h : LFs N w base v qs) : ∃ a c, v = .slice a qs.length c := by
 obtain ⟨xs, ho, -⟩ := h
 rcases ho.2 with ⟨rfl, h0⟩ | ⟨g, cap, cur, rfl, -⟩
 ·
  exact ⟨none, 0, by rw [h0]⟩
 ·
  exact ⟨_, _, rfl⟩

theorem LFs.cap (h : LFs N w base v qs) : ∃ a c, v = .slice a qs.length c ∧ qs.length ≤ c := by
 obtain ⟨xs, ho, -⟩ := h
 rcases ho.2 with ⟨rfl, h0⟩ | ⟨g, cap, cur, rfl, _, _, hnc, _⟩
 ·
  exact ⟨none, 0, by rw [h0], by omega⟩
 ·
  exact ⟨_, _, rfl, hnc⟩

theorem c4q {o : Oper} {a : Act} {K : Act → World → Prop} {Q : Exit → Act → World → Prop} (s x : Operand)
  (ho : o.op = .call { callee := .builtin .append, args := #[s, x], argTypes := #[23, 23] }) (N base : Nat) (v : Value) (qs : List Rat) (hs : a.eval s = v) (hown : LFs N w base v qs)
  (g c : Nat) (b : Bool) (a1 a2 : Option Addr) (n1 c1 n2 c2 : Nat) (q : Rat) (hx : a.eval x = .slice (some ⟨g, 0, none⟩) 1 c) (hrow : w.heap[g]? = some (.cells #[.bool b, .slice a1 n1 c1, .slice a2 n2 c2] 43 (0, 0)))
  (hf : v6q N w (.agg #[.bool b, .slice a1 n1 c1, .slice a2 n2 c2]) q) (hlen : qs.length ≤ 1000000) (hbase : base ≤ w.heap.size)
  (h : ∀ v' w', LFs N w' base v' (qs ++ [q]) → w.grownBy w' v.ownBlock → (∀ W, Below base W w → Below base W w') → (v'.ownBlock = v.ownBlock ∨ v'.ownBlock = some w.heap.size) → LFs N w' base v qs → K (a.put o.dst v') w') :
  Oper.wp Tryz.prog o a w K Q := by
 obtain ⟨i0, hi0, hz0, hz1, hz2⟩ := info_parts u7j
 have hlt := hown.lt
 have hown0 := hown
 obtain ⟨xs, hxs, hcl, hel⟩ := hown
 have hnl : [Value.bool b, Value.slice a1 n1 c1, Value.slice a2 n2 c2].length = 1 * 3 := rfl
 obtain ⟨v', w', hr, h2, h3, h4, h5, h6, h7⟩ := f1q (P := Tryz.prog) (w := w) base 23 o.type 43 i0 (.agg #[Value.bool false, Value.slice none 0 0, Value.slice none 0 0]) 3 56 Tryz.underlying23 hi0 hz0 hz1 hz2 rfl (by decide) v qs.length xs hxs ⟨g, 0, none⟩ 1 c
  [Value.bool b, Value.slice a1 n1 c1, Value.slice a2 n2 c2] hnl (by
   intro j u hu
   rw [Addr.add_lit, cell_of_row _ _ _ _ _ _ hrow]
   simpa using hu) (by intro u hu; simp at hu; rcases hu with rfl | rfl | rfl <;> rfl) (by unfold maxLen; omega) (by omega) hbase (by decide)
  (by intro u hu k; simp [Value.cells] at hu; rcases hu with rfl | rfl <;> (intro e; cases e)) (by intro u hu k; simp at hu; rcases hu with rfl | rfl | rfl <;> (intro e; cases e)) hcl
 unfold Oper.wp execOp
 simp only [ho, resolve, invoke, builtin, Sem.run_bind, Sem.run_pure, Result.andThen_ok, List.map_toArray, List.map_cons, List.map_nil, hs, hx, hr]
 refine h v' w' ?_ h3 ?_ h4 ⟨xs, h6, h7, fun j r hr => ?_⟩
 ·
  refine ⟨xs ++ [Value.bool b, Value.slice a1 n1 c1, Value.slice a2 n2 c2], by simpa using h2, h5, fun j r hr => ?_⟩
  have hxl : xs.length = qs.length * 3 := hxs.1
  by_cases hj : j < qs.length
  ·
   rw [List.getElem?_append_left hj] at hr
   obtain ⟨b', a1', n1', c1', a2', n2', c2', e0, e1, e2, hf'⟩ := hel j r hr
   exact ⟨b', a1', n1', c1', a2', n2', c2', by rw [List.getElem?_append_left (by omega)]; exact e0, by rw [List.getElem?_append_left (by omega)]; exact e1, by rw [List.getElem?_append_left (by omega)]; exact e2, hf'.grown hcl h3⟩
  ·
   have hjl : j = qs.length := by
    have h9 := (List.getElem?_eq_some_iff.1 hr).1
    simp at h9; omega
   subst hjl
   simp at hr
   subst hr
   refine ⟨b, a1, n1, c1, a2, n2, c2, ?_, ?_, ?_, hf.grown hcl h3⟩
   ·
    rw [List.getElem?_append_right (by omega), hxl]; simp
   ·
    rw [List.getElem?_append_right (by omega), hxl, show qs.length * 3 + 1 - qs.length * 3 = 1 by omega]; rfl
   ·
    rw [List.getElem?_append_right (by omega), hxl, show qs.length * 3 + 2 - qs.length * 3 = 2 by omega]; rfl
 ·
  intro W hW
  exact hW.grown h3 hbase (fun k hk => (hlt k hk).1)
 ·
  obtain ⟨b', a1', n1', c1', a2', n2', c2', e0, e1, e2, hf'⟩ := hel j r hr
  exact ⟨b', a1', n1', c1', a2', n2', c2', e0, e1, e2, hf'.grown hcl h3⟩
theorem q7x {ops : Array Oper} {rest : List Oper} {o : Oper} {a : Act} {Q : Exit → Act → World → Prop} (hgd : o.guard = none) (s x : Operand)
  (ho : o.op = .call { callee := .builtin .append, args := #[s, x], argTypes := #[23, 23] }) (N base : Nat) (v : Value) (qs : List Rat) (hs : a.eval s = v) (hown : LFs N w base v qs)
  (g c : Nat) (b : Bool) (a1 a2 : Option Addr) (n1 c1 n2 c2 : Nat) (q : Rat) (hx : a.eval x = .slice (some ⟨g, 0, none⟩) 1 c) (hrow : w.heap[g]? = some (.cells #[.bool b, .slice a1 n1 c1, .slice a2 n2 c2] 43 (0, 0)))
  (hf : v6q N w (.agg #[.bool b, .slice a1 n1 c1, .slice a2 n2 c2]) q) (hlen : qs.length ≤ 1000000) (hbase : base ≤ w.heap.size)
  (h : ∀ v' w', LFs N w' base v' (qs ++ [q]) → w.grownBy w' v.ownBlock → (∀ W, Below base W w → Below base W w') → (v'.ownBlock = v.ownBlock ∨ v'.ownBlock = some w.heap.size) → wpList Tryz.prog ops Q rest (a.put o.dst v') w') :
  wpList Tryz.prog ops Q (o :: rest) a w :=
 wpList_plain hgd fun _ hK => c4q s x ho N base v qs hs hown g c b a1 a2 n1 c1 n2 c2 q hx hrow hf hlen hbase fun v' w' h1 h2 h3 h4 _ => hK _ _ (h v' w' h1 h2 h3 h4)
theorem p6q {ops : Array Oper} {o : Oper} {a : Act} {K : Act → World → Prop} {Q : Exit → Act → World → Prop} {E : Prop} (hgd : o.guard = none) (s x : Operand)
  (ho : o.op = .call { callee := .builtin .append, args := #[s, x], argTypes := #[23, 23] }) (N base : Nat) (v : Value) (qs : List Rat) (hs : a.eval s = v) (hown : LFs N w base v qs)
  (g c : Nat) (b : Bool) (a1 a2 : Option Addr) (n1 c1 n2 c2 : Nat) (q : Rat) (hx : a.eval x = .slice (some ⟨g, 0, none⟩) 1 c) (hrow : w.heap[g]? = some (.cells #[.bool b, .slice a1 n1 c1, .slice a2 n2 c2] 43 (0, 0)))
  (hf : v6q N w (.agg #[.bool b, .slice a1 n1 c1, .slice a2 n2 c2]) q) (hlen : qs.length ≤ 1000000) (hbase : base ≤ w.heap.size)
  (h : ∀ v' w', LFs N w' base v' (qs ++ [q]) → w.grownBy w' v.ownBlock → (∀ W, Below base W w → Below base W w') → (v'.ownBlock = v.ownBlock ∨ v'.ownBlock = some w.heap.size) → LFs N w' base v qs → K (a.put o.dst v') w') :
  if Region.wanted o (yielded ops a.tmps) = true then Oper.wp Tryz.prog o a w K Q else E := by
 have hw : Region.wanted o (yielded ops a.tmps) = true := by simp [Region.wanted, hgd]
 rw [if_pos hw]
 exact c4q s x ho N base v qs hs hown g c b a1 a2 n1 c1 n2 c2 q hx hrow hf hlen hbase h
end Go.Proofs.YtkkbmlkpgknhgaaGreat
namespace Go.Proofs.YtkkbmlkpgknhgaaGreat
open Go.RowKit
attribute [local go_sem ↓] Go.wp_at_zero Go.wp_at_succ
variable {N base c c1 c2 n n1 n2 p : Nat} {P : Pm} {W w w' w'' : World} {a a1 a2 : Option Addr} {a' av bv v x : Value} {b : Bool} {ps qs rs xs : List Rat} {q : Rat}
def q5j (N : Nat) (w0 w : World) (q : Rat) (e : Ending) (w' : World) : Prop :=
 (∃ b a1 n1 c1 a2 n2 c2, e = .returned (.agg #[.bool b, .slice a1 n1 c1, .slice a2 n2 c2]) ∧ v6q N w0 (.agg #[.bool b, .slice a1 n1 c1, .slice a2 n2 c2]) q) ∧ Below w.heap.size w w'

theorem u1j {w0 : World} {i : Nat} (hb : Below w0.heap.size w0 w) (hp : w.cell? ⟨p, 0, none⟩ = some (.slice a n c)) (hl : z1q N w0 (.slice a n c) qs) (hi : i < n) :
  Calls Tryz.prog 54 #[.int .i64 (i : Nat), .pointer (some ⟨p, 0, none⟩)] w (q5j N w0 w (q9q qs i)) := by
 obtain ⟨q, B, off, b, a1, n1, c1, a2, n2, c2, hq, rfl, hc, hf⟩ := hl.at hi
 rw [v9q hq]
 have HF := hdd hf
 obtain ⟨x0, x1, x2⟩ := hc w hb
 have hlt1 := g9q hp
 have hlt2 := g9q x0
 clear hl hc hf hq hb
 go_enter Tryz.func54, Tryz.ntmps54
 go_wp2_with fail
 exact bodyPost_ret (results_cell_row rfl _ _ w.heap.size _ _ _ _ rfl (heap_alloc_new w _) Tryz.underlying43 rfl v0q) rfl ⟨⟨_, _, _, _, _, _, _, rfl, HF.o⟩, (qb).alloc qm _⟩

structure y2q (N : Nat) (W : World) (base : Nat) (av bv : Value) (ps rs : List Rat) (w' : World) : Prop where
 la : LFs N w' base av ps
 lb : LFs N w' base bv rs
 hbase : base ≤ W.heap.size
 size : W.heap.size ≤ w'.heap.size
 beside : ∀ k, k < W.heap.size → av.ownBlock ≠ some k → bv.ownBlock ≠ some k → w'.heap[k]? = W.heap[k]?
 bel : Below base W w'
theorem y2q.alloc (h : y2q N W base av bv ps rs w') (o : Obj) : y2q N W base av bv ps rs (w'.alloc o) :=
 ⟨h.la.below ((qb).alloc qm _), h.lb.below ((qb).alloc qm _), h.hbase, by have := h.size; simp; omega,
  fun k hk ha hb => (heap_alloc_old (r := k) w' o (by have := h.size; omega)).trans (h.beside k hk ha hb), h.bel.alloc (Nat.le_trans h.hbase h.size) _⟩
theorem y2q.drew (h : y2q N W base av bv ps rs w') : y2q N W base av bv ps rs w'.drew :=
 ⟨h.la.below (q5q qb 1), h.lb.below (q5q qb 1), h.hbase, h.size, h.beside, q5q h.bel 1⟩
theorem y2q.pushA (h : y2q N W base av bv ps rs w') (hg : w'.grownBy w'' av.ownBlock) (hold : LFs N w'' base av ps) (hbel : ∀ V, Below base V w' → Below base V w'') (hne : ∀ g, av.ownBlock = some g → bv.ownBlock ≠ some g) : y2q N W base av bv ps rs w'' :=
 ⟨hold, h.lb.grown hg (fun g hb e => hne g e hb) (fun _ _ _ _ _ _ _ _ hf => hf.grown h.la.clean hg), h.hbase, Nat.le_trans h.size hg.size,
  fun k hk ha hb => (hg.block k (Nat.lt_of_lt_of_le hk h.size) (fun e => ha e.symm)).trans (h.beside k hk ha hb), hbel W h.bel⟩
theorem y2q.pushB (h : y2q N W base av bv ps rs w') (hg : w'.grownBy w'' bv.ownBlock) (hold : LFs N w'' base bv rs) (hbel : ∀ V, Below base V w' → Below base V w'') (hne : ∀ g, av.ownBlock = some g → bv.ownBlock ≠ some g) : y2q N W base av bv ps rs w'' :=
 ⟨h.la.grown hg (fun g ha e => hne g ha e) (fun _ _ _ _ _ _ _ _ hf => hf.grown h.lb.clean hg), hold, h.hbase, Nat.le_trans h.size hg.size,
  fun k hk ha hb => (hg.block k (Nat.lt_of_lt_of_le hk h.size) (fun e => hb e.symm)).trans (h.beside k hk ha hb), hbel W h.bel⟩
structure y3z (N : Nat) (V : World) (base : Nat) (a' b' : Value) (ps rs : List Rat) (w' : World) : Prop where
 la : LFs N w' base a' ps
 lb : LFs N w' base b' rs
 ne : ∀ g, a'.ownBlock = some g → b'.ownBlock ≠ some g
 bel : Below base V w'
theorem y2q.both {V : World} {b' : Value} {ps' rs' : List Rat} (h : y2q N W base av bv ps rs w') (hA : LFs N w' base a' ps') (hB : LFs N w'' base b' rs') (hg : w'.grownBy w'' bv.ownBlock) (hbel : ∀ V, Below base V w' → Below base V w'')
  (hat : b'.ownBlock = bv.ownBlock ∨ b'.ownBlock = some w'.heap.size) (hnA : ∀ g, a'.ownBlock = some g → bv.ownBlock ≠ some g) (hV : Below base V W) : y3z N V base a' b' ps' rs' w'' := by
 have hlt := hA.lt
 refine ⟨hA.grown hg (fun g ha e => hnA g ha e) (fun _ _ _ _ _ _ _ _ hf => hf.grown h.lb.clean hg), hB, fun g ha hb => ?_, hbel V (hV.trans h.bel)⟩
 rcases hat with e | e
 ·
  exact hnA g ha (by rw [← e]; exact hb)
 ·
  rw [e] at hb
  have := (hlt g ha).2
  simp at hb; omega
theorem y2q.neA (h : y2q N W base av bv ps rs w') (hne : ∀ g, av.ownBlock = some g → bv.ownBlock ≠ some g) (hat : a'.ownBlock = av.ownBlock ∨ a'.ownBlock = some w'.heap.size) : ∀ g, a'.ownBlock = some g → bv.ownBlock ≠ some g := by
 intro g ha hb
 rcases hat with e | e
 ·
  exact hne g (by rw [← e]; exact ha) hb
 ·
  rw [e] at ha
  have := (h.lb.lt g hb).2
  simp at ha; omega

theorem c7q {cs : Array Value} {t : TypeId} (h : w.heap.size = n) : (w.alloc (.cells cs t)).heap[n]? = some (.cells cs t (0, 0)) := by
 subst h; exact heap_alloc_new w _
theorem q4x {cs cs' : Array Value} {t t' : TypeId} (h : w.heap.size = n) : ((w.alloc (.cells cs t)).alloc (.cells cs' t')).heap[n]? = some (.cells cs t (0, 0)) := by
 subst h; exact (heap_alloc_old _ _ (by simp)).trans (heap_alloc_new w _)

theorem c6q {row : Option Nat} {k n0 : Nat} {ob : Obj} (hg : w.grownBy w' row) (hrow : w.heap[k]? = some ob) (hlt : ∀ g, row = some g → g < n0) (hk : n0 ≤ k) : w'.heap[k]? = some ob := by
 have h9 : k < w.heap.size := by
  by_cases h : k < w.heap.size
  ·
   exact h
  ·
   have : w.heap[k]? = none := by simp; omega
   rw [this] at hrow; cases hrow
 rw [hg.block k h9 (fun e => by have := hlt k e.symm; omega)]
 exact hrow
theorem y7j {P : Rat} {j : Nat} (hj : j < ps.length) : q9q (ps ++ [P]) j = q9q ps j := by
 unfold q9q; rw [List.getElem?_append_left hj]
theorem y1x {P : Rat} : q9q (ps ++ [P]) ps.length = P := by
 unfold q9q; rw [List.getElem?_append_right qm]; simp
theorem q3w {g h : Nat → Rat} : ∀ {n : Nat}, (∀ j, j < n → g j = h j) → j8q g 0 n = j8q h 0 n
 | 0, _ => rfl
 | n + 1, e => by
  show j8q g 0 n + g (0 + n) = j8q h 0 n + h (0 + n)
  rw [q3w fun j hj => e j (by omega), Nat.zero_add, e n (by omega)]
theorem z1k {P R : Rat} (h : rs.length = ps.length) : j8q (fun j => q9q (ps ++ [P]) j * q9q (rs ++ [R]) j) 0 (ps.length + 1) = j8q (fun j => q9q ps j * q9q rs j) 0 ps.length + P * R := by
 show j8q _ 0 ps.length + q9q (ps ++ [P]) (0 + ps.length) * q9q (rs ++ [R]) (0 + ps.length) = _
 have e : q9q (rs ++ [R]) ps.length = R := by rw [← h]; exact y1x
 rw [Nat.zero_add, y1x, e]
 congr 1
 exact q3w fun j hj => by rw [y7j hj, y7j (by omega)]

theorem j7x {a' : Option Addr} {n' c' : Nat} {gs : List Rat} (hp : w.cell? ⟨p, 0, none⟩ = some (.slice a n c)) (hl : z1q N w (.slice a n c) gs) (hl' : z1q N w (.slice a' n' c') qs) (hnn : n' ≤ n) (hN : N ≤ 50) (hn : n ≤ 100) (hNn : N * n' ≤ 1000) :
  Calls Tryz.prog 70 #[.func (.func 54) #[] #[.pointer (some ⟨p, 0, none⟩)], .slice a' n' c'] w (h0q w (j8q (fun i => q9q gs i * q9q qs i) 0 n')) := by
 obtain ⟨w1, hw1, HB1, HR1⟩ := al1 w #[.bool false, .slice none 0 0, .slice none 0 0] 43
 have HW1 := hdd hw1.symm
 have HL := hdd (hl.below HB1.o)
 have HL' := hdd (hl'.below HB1.o)
 have HP := hdd (q3q HB1.o hp)
 have HNN := hdd hNn
 have hn'100 : n' ≤ 100 := by omega
 obtain ⟨T, hT⟩ : ∃ T : Nat → Rat, T = fun i => q9q gs i * q9q qs i := ⟨_, rfl⟩
 have HT : Hi (∀ i, T i = q9q gs i * q9q qs i) := hdd (fun i => by rw [hT])
 rw [← hT]
 have KG := hdd (fun w' i (hi : i < n) (hb : Below w1.heap.size w1 w') => u1j (w := w') (p := p) hb (q3q hb HP.o) HL.o hi)
 clear hw1 hl hl' hp hNn hT
 go_enter Tryz.func70, Tryz.ntmps70
 go_wp2_with fail
 rw [HW1.o]
 go_loopw [5, 6, 12] (fun av bv iv wr => ∃ (i k : Nat) (oa ob : Option Addr) (oc od : Nat) (ps rs : List Rat), i ≤ n' ∧ k ≤ i ∧ iv = .int .i64 i ∧ av = .slice oa k oc ∧ bv = .slice ob k od ∧ Hi (ps.length = k ∧ rs.length = k) ∧ Hi (LFs N wr w1.heap.size (.slice oa k oc) ps) ∧ Hi (LFs N wr w1.heap.size (.slice ob k od) rs) ∧
  Hi (∀ g, (Value.slice oa k oc).ownBlock = some g → (Value.slice ob k od).ownBlock ≠ some g) ∧ Hi (j8q (fun j => q9q ps j * q9q rs j) 0 k = j8q T 0 i) ∧ Hi (Below w1.heap.size w1 wr)) (fun _ _ iv _ => n' - (intOf iv).toNat)
 case atStart => exact ⟨0, 0, none, none, 0, 0, [], [], Nat.zero_le _, Nat.le_refl _, rfl, rfl, rfl, hdd ⟨rfl, rfl⟩, hdd (LFs.nil _ _ _), hdd (LFs.nil _ _ _), hdd (fun g h => by simp [Value.ownBlock] at h), hdd rfl, hdd qb⟩
 case round =>
  obtain ⟨i, k, oa, ob, oc, od, ps, rs, hi, hki, rfl, rfl, rfl, hlen, hA, hB, hne, hsum, hZ⟩ := hrel
  obtain ⟨wo, rfl⟩ : ∃ wo : World, wo = wr := ⟨_, rfl⟩
  by_cases hin : i < n'
  ·
   have t0 : decide ((i : Int) < (n' : Int)) = true := by simp; omega
   obtain ⟨q, B, off, b, a1, n1, c1, a2, n2, c2, hq, ha, hc, hf⟩ := HL'.o.at hin
   subst ha
   obtain ⟨x0, x1, x2⟩ := hc wo hZ.o
   have HF := hdd hf
   have HQ := hdd (v9q hq)
   clear hc hf hq
   go_wp2_with ((with_reducible refine j9q ?_); refine q6q rfl _ _ _ rfl wo.heap.size rfl _ rfl _ _ (heap_alloc_new _ _) v0q rfl x3q ?_; intro w4 h4 hon4; refine y0q ?_)
   have hb4 : Below wo.heap.size wo w4 := q4q ((qb).alloc qm _) hon4 qm
   have HB4 := hdd (q0q hZ.o hb4)
   have HO4 := hdd hb4
   have RY := hdd (q1q h4)
   have HRY4 := hdd h4
   have K := hdd (KG.o w4 i (by omega) HB4.o)
   clear h4 hon4 hb4 x0 x1 x2
   refine z2q ?_
   go_wp2_with fail
   refine K.o.mono ?_
   rintro en5 w5 ⟨⟨b5, a5, n5, c5, i5, j5, k5, rfl, f5⟩, hb5⟩
   have HF5 := hdd f5
   have HB5 := hdd hb5
   clear f5
   go_wp2_with ((with_reducible refine j9q ?_); refine q6q rfl _ _ _ rfl w5.heap.size rfl _ rfl _ _ (heap_alloc_new _ _) v0q rfl x3q ?_; intro w6 h6 hon6; refine y0q ?_)
   have hb6 : Below w5.heap.size w5 w6 := q4q ((qb).alloc qm _) hon6 qm
   have HZ6 := hdd (q0q HB4.o (q0q hb5 hb6))
   have HO6 := hdd (q0q HO4.o (q0q hb5 hb6))
   have RG := hdd (q1q h6)
   have HY6 := hdd (q0q hb5 hb6)
   have hz6 := Below.refl w6.heap.size w6
   have y0 := RY.o 0 _ rfl _ HY6.o
   have y1 := RY.o 1 _ rfl _ HY6.o
   have y2 := RY.o 2 _ rfl _ HY6.o
   have g0 := RG.o 0 _ rfl _ hz6
   have g1 := RG.o 1 _ rfl _ hz6
   have g2 := RG.o 2 _ rfl _ hz6
   have HRG := hdd h6
   have HRY : Hi (w6.heap[wo.heap.size]? = some (.cells #[.bool b, .slice a1 n1 c1, .slice a2 n2 c2] 43 (0, 0))) := hdd ((HY6.o.block _ (lt_of_block HRY4.o)).trans HRY4.o)
   have HLT : Hi (wo.heap.size < w6.heap.size ∧ w5.heap.size < w6.heap.size ∧ wo.heap.size ≤ w5.heap.size) := hdd ⟨lt_of_block HRY.o, lt_of_block HRG.o, by have h7 := HO4.o.size; have h8 := HB5.o.size; omega⟩
   have HLA : Hi (∀ g, (Value.slice oa k oc).ownBlock = some g → g < w6.heap.size) := hdd (fun g hg => by have := (hA.o.lt g hg).2; have := HLT.o; omega)
   clear h6 hon6 hb6 hb5 hz6
   refine z2q ?_
   have hln1 : n1 ≤ 1073741824 := by
    obtain ⟨_, _, _, ⟨_, _, he, hu, _⟩, _, _, _⟩ := HF.o
    simp only [Value.agg.injEq, Array.mk.injEq, List.cons.injEq, and_true] at he
    obtain ⟨-, rfl, -⟩ := he
    have := hu.lenE; have := hu.len; omega
   have hln5 : n5 ≤ 1073741824 := by
    obtain ⟨_, _, _, ⟨_, _, he, hu, _⟩, _, _, _⟩ := HF5.o
    simp only [Value.agg.injEq, Array.mk.injEq, List.cons.injEq, and_true] at he
    obtain ⟨-, rfl, -⟩ := he
    have := hu.lenE; have := hu.len; omega
   have HNX : Hi (j8q T 0 (i + 1) = j8q T 0 i + q9q gs i * q) := hdd (by
    rw [← i4q, HT.o, HQ.o])
   by_cases h1 : 0 < n1
   ·
    have u1 : decide ((0 : Int) < (n1 : Int)) = true := by simp; omega
    by_cases h3 : 0 < n5
    ·
     have u3 : decide ((0 : Int) < (n5 : Int)) = true := by simp; omega
     have hI0 : y2q N w6 w1.heap.size (Value.slice oa k oc) (Value.slice ob k od) ps rs w6.drew := y2q.drew ⟨hA.o.below HO6.o, hB.o.below HO6.o, HZ6.o.size, Nat.le_refl _, fun _ _ _ _ => rfl, Below.refl _ _⟩
     have KEEP : Hi (∀ w', y2q N w6 w1.heap.size (Value.slice oa k oc) (Value.slice ob k od) ps rs w' → w'.cell? ⟨wo.heap.size, 0, none⟩ = some (.bool b) ∧ w'.cell? ⟨wo.heap.size, 1, none⟩ = some (.slice a1 n1 c1) ∧ w'.cell? ⟨wo.heap.size, 2, none⟩ = some (.slice a2 n2 c2) ∧
       w'.cell? ⟨w5.heap.size, 0, none⟩ = some (.bool b5) ∧ w'.cell? ⟨w5.heap.size, 1, none⟩ = some (.slice a5 n5 c5) ∧ w'.cell? ⟨w5.heap.size, 2, none⟩ = some (.slice i5 j5 k5) ∧ y2q N w6 w1.heap.size (Value.slice oa k oc) (Value.slice ob k od) ps rs w') := hdd (fun w' h => by
      have hla := hA.o.lt
      have hlb := hB.o.lt
      have z1 := HLT.o
      have e1 := (h.beside wo.heap.size (by omega) (fun e => by have := hla _ e; omega) (fun e => by have := hlb _ e; omega)).trans HRY.o
      have e2 := (h.beside w5.heap.size (by omega) (fun e => by have := hla _ e; omega) (fun e => by have := hlb _ e; omega)).trans HRG.o
      exact ⟨by rw [cell_of_row _ _ _ _ _ _ e1]; rfl, by rw [cell_of_row _ _ _ _ _ _ e1]; rfl, by rw [cell_of_row _ _ _ _ _ _ e1]; rfl, by rw [cell_of_row _ _ _ _ _ _ e2]; rfl, by rw [cell_of_row _ _ _ _ _ _ e2]; rfl, by rw [cell_of_row _ _ _ _ _ _ e2]; rfl, h⟩)
     have HLN : Hi (ps.length ≤ 1000000 ∧ rs.length ≤ 1000000) := hdd (by have := hlen.o; omega)
     go_wp2_with fail
     clear y0 y1 y2 g0 g1 g2
     go_region_held3 (fun w' => w'.cell? ⟨wo.heap.size, 0, none⟩ = some (.bool b) ∧ w'.cell? ⟨wo.heap.size, 1, none⟩ = some (.slice a1 n1 c1) ∧ w'.cell? ⟨wo.heap.size, 2, none⟩ = some (.slice a2 n2 c2) ∧
       w'.cell? ⟨w5.heap.size, 0, none⟩ = some (.bool b5) ∧ w'.cell? ⟨w5.heap.size, 1, none⟩ = some (.slice a5 n5 c5) ∧ w'.cell? ⟨w5.heap.size, 2, none⟩ = some (.slice i5 j5 k5) ∧ y2q N w6 w1.heap.size (Value.slice oa k oc) (Value.slice ob k od) ps rs w')
      (((try dsimp only); refine KEEP.o _ ?_; (first | assumption | exact y2q.alloc (‹_ ∧ _ ∧ _ ∧ _ ∧ _ ∧ _ ∧ y2q N w6 w1.heap.size (Value.slice oa k oc) (Value.slice ob k od) ps rs _›).2.2.2.2.2.2 _)))
      (first | ((refine p6q (by rfl) _ _ (by rfl) N w1.heap.size (Value.slice oa k oc) ps (by rfl) (‹_ ∧ _ ∧ _ ∧ _ ∧ _ ∧ _ ∧ y2q N w6 w1.heap.size (Value.slice oa k oc) (Value.slice ob k od) ps rs _›).2.2.2.2.2.2.la _ _ b5 a5 i5 n5 c5 j5 k5 (q9q gs i) (by rfl) (by first | exact c7q (by simp) | exact q4x (by simp)) (HF5.o.below (HZ6.o.trans (‹_ ∧ _ ∧ _ ∧ _ ∧ _ ∧ _ ∧ y2q N w6 w1.heap.size (Value.slice oa k oc) (Value.slice ob k od) ps rs _›).2.2.2.2.2.2.bel)) HLN.o.1 (Nat.le_trans (‹_ ∧ _ ∧ _ ∧ _ ∧ _ ∧ _ ∧ y2q N w6 w1.heap.size (Value.slice oa k oc) (Value.slice ob k od) ps rs _›).2.2.2.2.2.2.hbase (‹_ ∧ _ ∧ _ ∧ _ ∧ _ ∧ _ ∧ y2q N w6 w1.heap.size (Value.slice oa k oc) (Value.slice ob k od) ps rs _›).2.2.2.2.2.2.size) ?_); intro v7 w7 hA7 hgA hbelA hatA holdA; have hn7 := y2q.neA (a' := v7) (‹_ ∧ _ ∧ _ ∧ _ ∧ _ ∧ _ ∧ y2q N w6 w1.heap.size (Value.slice oa k oc) (Value.slice ob k od) ps rs _›).2.2.2.2.2.2 hne.o hatA; have hI7 : y2q N w6 w1.heap.size (Value.slice oa k oc) (Value.slice ob k od) ps rs w7 := y2q.pushA (‹_ ∧ _ ∧ _ ∧ _ ∧ _ ∧ _ ∧ y2q N w6 w1.heap.size (Value.slice oa k oc) (Value.slice ob k od) ps rs _›).2.2.2.2.2.2 hgA holdA hbelA hne.o) | ((refine p6q (by rfl) _ _ (by rfl) N w1.heap.size (Value.slice ob k od) rs (by rfl) (‹_ ∧ _ ∧ _ ∧ _ ∧ _ ∧ _ ∧ y2q N w6 w1.heap.size (Value.slice oa k oc) (Value.slice ob k od) ps rs _›).2.2.2.2.2.2.lb _ _ b a1 a2 n1 c1 n2 c2 q (by rfl) (by first | exact c7q (by simp) | exact c6q hgA (c7q (by simp)) HLA.o (by simp) | exact c6q hgA (q4x (by simp)) HLA.o (by simp)) (HF.o.below (HZ6.o.trans (‹_ ∧ _ ∧ _ ∧ _ ∧ _ ∧ _ ∧ y2q N w6 w1.heap.size (Value.slice oa k oc) (Value.slice ob k od) ps rs _›).2.2.2.2.2.2.bel)) HLN.o.2 (Nat.le_trans (‹_ ∧ _ ∧ _ ∧ _ ∧ _ ∧ _ ∧ y2q N w6 w1.heap.size (Value.slice oa k oc) (Value.slice ob k od) ps rs _›).2.2.2.2.2.2.hbase (‹_ ∧ _ ∧ _ ∧ _ ∧ _ ∧ _ ∧ y2q N w6 w1.heap.size (Value.slice oa k oc) (Value.slice ob k od) ps rs _›).2.2.2.2.2.2.size) ?_); intro v8 w8 hB8 hgB hbelB hatB holdB; have hX8 : y3z N w1 w1.heap.size v7 v8 (ps ++ [q9q gs i]) (rs ++ [q]) w8 := y2q.both (‹_ ∧ _ ∧ _ ∧ _ ∧ _ ∧ _ ∧ y2q N w6 w1.heap.size (Value.slice oa k oc) (Value.slice ob k od) ps rs _›).2.2.2.2.2.2 (by first | exact hA7 | exact hA7.below ((qb).alloc qm _)) hB8 hgB hbelB hatB hn7 HZ6.o; have hI8 : y2q N w6 w1.heap.size (Value.slice oa k oc) (Value.slice ob k od) ps rs w8 := y2q.pushB (‹_ ∧ _ ∧ _ ∧ _ ∧ _ ∧ _ ∧ y2q N w6 w1.heap.size (Value.slice oa k oc) (Value.slice ob k od) ps rs _›).2.2.2.2.2.2 hgB holdB hbelB hne.o))
     all_goals
      have HX8 := hdd hX8
      obtain ⟨ga, gc, hga⟩ := hX8.la.form
      obtain ⟨gb, gd, hgb⟩ := hX8.lb.form
      have HLP : Hi ((ps ++ [q9q gs i]).length = k + 1 ∧ (rs ++ [q]).length = k + 1) := hdd (by simp; exact hlen.o)
      rw [HLP.o.1] at hga
      rw [HLP.o.2] at hgb
      subst hga
      subst hgb
      have HS8 : Hi (j8q (fun j => q9q (ps ++ [q9q gs i]) j * q9q (rs ++ [q]) j) 0 (k + 1) = j8q T 0 (i + 1)) := hdd (by
       have h9 := z1k (ps := ps) (rs := rs) (P := q9q gs i) (R := q) (by rw [hlen.o.1, hlen.o.2])
       rw [hlen.o.1] at h9
       rw [h9, hsum.o, HNX.o])
      have HA8 := hdd HX8.o.la
      have HB8 := hdd HX8.o.lb
      have HN8 := hdd HX8.o.ne
      have HZ8 := hdd HX8.o.bel
      clear hX8 HX8
      go_wp2_with fail
      go_roundw
     all_goals first
      | exact ⟨i + 1, k + 1, _, _, _, _, _, _, by omega, by omega, by go_num, by go_num, by go_num, HLP, HA8, HB8, HN8, HS8, HZ8⟩
      | (simp [intOf]; omega)
    ·
     have u3 : decide ((0 : Int) < (n5 : Int)) = false := by simp; omega
     have HZE : Hi (q9q gs i = 0) := hdd (r9q HF5.o (by omega))
     have HS2 : Hi (j8q (fun j => q9q ps j * q9q rs j) 0 k = j8q T 0 (i + 1)) := hdd (by
      rw [HNX.o, hsum.o, HZE.o, Rat.zero_mul, Rat.add_zero])
     have HA6 := hdd (hA.o.below HO6.o)
     have HB6 := hdd (hB.o.below HO6.o)
     go_wp2_with fail
     go_roundw
     case rel => exact ⟨i + 1, k, _, _, _, _, ps, rs, by omega, by omega, by go_num, rfl, rfl, hlen, HA6, HB6, hne, HS2, HZ6⟩
     case measure => simp [intOf]; omega
   ·
    have u1 : decide ((0 : Int) < (n1 : Int)) = false := by simp; omega
    have HZE : Hi (q = 0) := hdd (r9q HF.o (by omega))
    have HS2 : Hi (j8q (fun j => q9q ps j * q9q rs j) 0 k = j8q T 0 (i + 1)) := hdd (by
     rw [HNX.o, hsum.o, HZE.o, Rat.mul_zero, Rat.add_zero])
    have HA6 := hdd (hA.o.below HO6.o)
    have HB6 := hdd (hB.o.below HO6.o)
    go_wp2_with fail
    go_roundw
    case rel => exact ⟨i + 1, k, _, _, _, _, ps, rs, by omega, by omega, by go_num, rfl, rfl, hlen, HA6, HB6, hne, HS2, HZ6⟩
    case measure => simp [intOf]; omega
  ·
   have t0 : decide ((i : Int) < (n' : Int)) = false := by simp; omega
   have hie : i = n' := by omega
   subst hie
   have KD : Hi (Calls Tryz.prog 102 #[.slice oa k oc, .slice ob k od] wo (h0q wo (j8q T 0 i))) := hdd (by
    have h9 := y5y hA.o.list hB.o.list hN (by have := hlen.o; omega) (by have := hlen.o; omega) (Nat.le_trans (Nat.mul_le_mul_left N (show ps.length ≤ i by have := hlen.o; omega)) HNN.o)
    rw [hlen.o.1, hlen.o.2, Nat.min_self, hsum.o] at h9
    exact h9)
   obtain ⟨S, hS⟩ := qx (j8q T 0 i)
   rw [← hS] at KD
   have HSS := hdd hS
   clear hS
   go_wp2_with fail
   refine KD.o.mono ?_
   rintro en9 w9 ⟨⟨v9, rfl, f9⟩, hb9⟩
   obtain ⟨a9, n9, c9, i9, j9, k9, hq9⟩ := q8q f9
   subst hq9
   have hz9 := q0q hZ.o hb9
   have HR9 : Hi (w9.heap[w.heap.size]? = some (.cells #[.bool false, .slice none 0 0, .slice none 0 0] 43 (0, 0))) := hdd ((hz9.block _ (lt_of_block HR1.o)).trans HR1.o)
   have HF9 := hdd (f9.other HR9.o (q7q _ _ (decide (S.num < 0)) (Value.slice a9 n9 c9) (Value.slice i9 j9 k9)))
   have HB9 := hdd (q0q HB1.o hz9)
   have r0 := q1q HR9.o 0 _ rfl _ qb
   have r1 := q1q HR9.o 1 _ rfl _ qb
   have r2 := q1q HR9.o 2 _ rfl _ qb
   have z0 := frozen_of_row _ _ 0 _ _ HR9.o
   have z1 := frozen_of_row _ _ 1 _ _ HR9.o
   have z2 := frozen_of_row _ _ 2 _ _ HR9.o
   clear f9 hb9 hz9
   go_wp2_with fail
   exact bodyPost_ret (results_cell_row rfl _ _ w.heap.size _ _ _ _ rfl (z5q HR9.o) Tryz.underlying43 rfl v0q) rfl ⟨⟨_, rfl, by rw [← HSS.o]; exact HF9.o⟩, q4q HB9.o (q7q _ _ _ _ _) (by omega)⟩
def SzF (n : Nat) (w : World) (v : Value) (q : Rat) : Prop := ∃ b l m, m3q w v b l m ∧ q = v1q b l m ∧ l.length + m.length ≤ n
theorem v6q.sz (h : v6q n w v q) : SzF (2 * n) w v q := by
 obtain ⟨b, l, m, h1, h2, h3, h4⟩ := h
 exact ⟨b, l, m, h1, h2, by omega⟩
theorem j3q.sz (h : j3q w v q) (hn : j5q q ≤ n) (hl : j5q q ≤ 4096) : SzF n w v q := by
 obtain ⟨u, d, rfl, hu, hd⟩ := h
 exact ⟨_, _, _, ⟨_, _, rfl, hu, hd⟩, (t4q hl).symm, hn⟩
theorem SzF.below (h : SzF n w v q) (hb : Below w.heap.size w w') : SzF n w' v q := by
 obtain ⟨b, l, m, h1, h2⟩ := h
 exact ⟨b, l, m, h1.below hb, h2⟩
theorem j1x {m : Nat} {y : Value} {P S : Rat} (hx : SzF n w x P) (hy : SzF m w y S) (hn : n ≤ 4096) (hm : m ≤ 4096) :
  Calls Tryz.prog 66 #[x, y] w fun e w' => e = .returned (.int .i64 (z7q P S)) ∧ Below w.heap.size w w' := by
 obtain ⟨b, l, k, h1, rfl, hl1⟩ := hx
 obtain ⟨b', l', k', h2, rfl, hl2⟩ := hy
 exact g8x h1 h2 (by omega) (by omega)

theorem q1k :
  Calls Tryz.prog 21 #[.slice a n c] w fun e w' => (∃ g, e = .returned (.func (.func 54) #[] #[.pointer (some ⟨g, 0, none⟩)]) ∧ w'.cell? ⟨g, 0, none⟩ = some (.slice a n c)) ∧ Below w.heap.size w w' := by
 have hmf : ∀ (fn : Fn) (first cap : Array Value) (w : World), (Instr.makeFunc fn first cap).run Tryz.prog w = .ok (.func fn first cap) w := fun _ _ _ _ => rfl
 go_enter Tryz.func21, Tryz.ntmps21
 go_wp2_with fail
 go_ret
 exact ⟨⟨_, rfl, by rw [cell_of_row _ _ _ _ _ _ (heap_alloc_new w _)]; rfl⟩, (qb).alloc qm _⟩

theorem y2w : d2q 0 1 = 0 := by decide +kernel
theorem q0v : Calls Tryz.prog 65 #[.int .i64 0] w (h0q w 0) := by
 obtain ⟨w1, hw1, HB1, HR1⟩ := al1 w #[.bool false, .slice none 0 0, .slice none 0 0] 43
 have HW1 := hdd hw1.symm
 clear hw1
 have KM : Hi (∀ w', Calls Tryz.prog 93 #[.int .i64 0, .int .i64 1] w' fun e w'' => (∃ r, e = .returned (.tuple #[r, .int .i64 0]) ∧ j3q w'' r 0) ∧ Below w'.heap.size w' w'') := hdd (fun w' => by
  have h9 := v7z (w := w') 0 1 (by decide) (by decide) (by decide) (by decide)
  have e9 : g7q ((1 : Int).natAbs) = false := f2q (by decide)
  rw [e9, y2w] at h9
  exact h9.mono fun e w' h => ⟨by simpa using h.1, h.2⟩)
 obtain ⟨Q, hQ⟩ := qx ((0 : Rat))
 rw [← hQ] at KM ⊢
 clear hQ
 go_enter Tryz.func65, Tryz.ntmps65
 go_wp2_with fail
 rw [HW1.o]
 refine (KM.o _).mono ?_
 rintro en2 w2 ⟨⟨v2, rfl, f2⟩, hb2⟩
 obtain ⟨a2, n2, c2, i2, j2, k2, hq2⟩ := q8q f2
 subst hq2
 have HF2 := hdd f2
 clear f2
 go_wp2_with ((with_reducible refine j9q ?_); refine q6q rfl _ _ _ rfl w2.heap.size rfl _ rfl _ _ (heap_alloc_new _ _) v0q rfl x3q ?_; intro w3 h3 hon3; refine y0q ?_)
 have hb3 : Below w2.heap.size w2 w3 := q4q ((qb).alloc qm _) hon3 qm
 have hz3 := q0q hb2 hb3
 have HR3 : Hi (w3.heap[w.heap.size]? = some (.cells #[.bool false, .slice none 0 0, .slice none 0 0] 43 (0, 0))) := hdd ((hz3.block _ (lt_of_block HR1.o)).trans HR1.o)
 have HB3 := hdd (q0q HB1.o hz3)
 have HF3 := hdd ((HF2.o.below hb3).other HR3.o (q7q _ _ (decide (Q.num < 0)) (Value.slice a2 n2 c2) (Value.slice i2 j2 k2)))
 have RR := hdd (q1q h3)
 have s0 := RR.o 0 _ rfl _ qb
 have s1 := RR.o 1 _ rfl _ qb
 have s2 := RR.o 2 _ rfl _ qb
 have r0 := q1q HR3.o 0 _ rfl _ qb
 have r1 := q1q HR3.o 1 _ rfl _ qb
 have r2 := q1q HR3.o 2 _ rfl _ qb
 have g0 := frozen_of_row _ _ 0 _ _ HR3.o
 have g1 := frozen_of_row _ _ 1 _ _ HR3.o
 have g2 := frozen_of_row _ _ 2 _ _ HR3.o
 clear h3 hon3 hb3 hb2 hz3
 refine z2q ?_
 go_wp2_with fail
 exact bodyPost_ret (results_cell_row rfl _ _ w.heap.size _ _ _ _ rfl (z5q HR3.o) Tryz.underlying43 rfl v0q) rfl ⟨⟨_, rfl, HF3.o⟩, q4q HB3.o (q7q _ _ _ _ _) (by omega)⟩

def m9q (gs xs : List Rat) : Rat := j8q (fun i => q9q gs i * q9q xs i) 0 xs.length
def y5q (P : Pm) (xs : List Rat) : Rat := if j7q P = true ∧ (xs.length : Int) = P.vars then m9q P.goal xs else 0
def w9q (N : Nat) (P : Pm) (xs : List Rat) : Prop := Fit P ∧ P.vars ≤ 100 ∧ N ≤ 50 ∧ N * P.goal.length ≤ 1000 ∧ xs.length ≤ 100
theorem g5q (h : j7q P = true) : x7q P = 0 := by unfold x7q; rw [h]; rfl
theorem x6q (h : j7q P = false) : x7q P = 20 := by unfold x7q; rw [h]; rfl
theorem j2q (h : j7q P = true) : (P.goal.length : Int) = P.vars ∧ (P.free.length : Int) = P.vars ∧ 1 ≤ P.vars := by
 have h1 : t6q P = true := by unfold j7q at h; simp only [Bool.and_eq_true] at h; exact h.1
 simp only [t6q, decide_eq_true_eq] at h1
 exact ⟨h1.2.2, h1.2.1, h1.1⟩

theorem j4v (h : y9q N w v P) (hx : z1q N w x xs) (hs : w9q N P xs) :
  Calls Tryz.prog 38 #[v, x] w (h0q w (y5q P xs)) := by
 have HP := hdd h
 have HX := hdd hx
 obtain ⟨fa, fc, ga, gc, ra, rc, rfl, hz1, hz2, -, hG, -⟩ := h
 obtain ⟨xa, xc, rfl, -⟩ := hx
 have HG := hdd hG
 obtain ⟨hfit, hv100, hN, hNn, hx100⟩ := hs
 have HFIT := hdd hfit
 have HN := hdd hN
 have HNN := hdd hNn
 obtain ⟨w1, hw1, HB1, HX1, HR1⟩ := al2 w #[.int .i64 P.vars, .slice fa P.free.length fc, .slice ga P.goal.length gc, .slice ra P.rows.length rc] 26 #[.bool false, .slice none 0 0, .slice none 0 0] 43
 have HW1 := hdd hw1.symm
 obtain ⟨z, hz⟩ := qx (P.vars)
 obtain ⟨fn, hfn⟩ := qx (P.free.length)
 obtain ⟨gn, hgn⟩ := qx (P.goal.length)
 obtain ⟨rn, hrn⟩ := qx (P.rows.length)
 obtain ⟨xn, hxn⟩ := qx (xs.length)
 have KR := hdd (fun w' (hb : Below w.heap.size w w') => n7q (HP.o.below hb) HFIT.o)
 rw [← hz] at hz1 hz2 HX1 HW1 HP KR hv100
 rw [← hfn] at HX1 HW1 HP KR
 rw [← hgn] at HX1 HW1 HP KR HG
 rw [← hrn] at HX1 HW1 HP KR
 rw [← hxn] at HX hx100 ⊢
 rw [← hz, ← hfn, ← hgn, ← hrn]
 have HEQ := hdd (And.intro hz (And.intro hgn hxn))
 clear hw1 hG hN hNn hfit hz hfn hgn hrn hxn
 have RX := hdd (q1q HX1.o)
 cases hb : j7q P with
 | false =>
  have HV : Hi (y5q P xs = 0) := hdd (by unfold y5q; rw [hb]; simp)
  rw [x6q hb] at KR
  clear hb
  obtain ⟨Q, hQ⟩ := qx ((0 : Rat))
  have HQ0 := hdd hQ
  clear hQ
  go_enter Tryz.func38, Tryz.ntmps38
  go_wp2_with fail
  rw [HW1.o]
  refine (KR.o _ HB1.o).mono ?_
  rintro en2 w2 ⟨rfl, hb2⟩
  go_wp2_with fail
  refine (x1j (N := 1) (qs := []) ⟨none, 0, rfl, fun i q h => by simp at h⟩ (by decide) (by decide) (by decide)).mono ?_
  rintro en9 w9 ⟨⟨v9, rfl, f9⟩, hb9⟩
  have f9' : j3q w9 v9 Q := by rw [HQ0.o]; exact f9
  obtain ⟨a9, n9, c9, i9, j9, k9, hq9⟩ := q8q f9'
  subst hq9
  have HFQ := hdd f9'
  clear f9 f9'
  have HZ9 := hdd (q0q hb2 hb9)
  have HR9 : Hi (w9.heap[w.heap.size + 1]? = some (.cells #[.bool false, .slice none 0 0, .slice none 0 0] 43 (0, 0))) := hdd ((HZ9.o.block _ (lt_of_block HR1.o)).trans HR1.o)
  have HF9 := hdd (HFQ.o.other HR9.o (q7q _ _ (decide (Q.num < 0)) (Value.slice a9 n9 c9) (Value.slice i9 j9 k9)))
  have HB9 := hdd (q0q HB1.o HZ9.o)
  have r0 := q1q HR9.o 0 _ rfl _ qb
  have r1 := q1q HR9.o 1 _ rfl _ qb
  have r2 := q1q HR9.o 2 _ rfl _ qb
  have z0 := frozen_of_row _ _ 0 _ _ HR9.o
  have z1 := frozen_of_row _ _ 1 _ _ HR9.o
  have z2 := frozen_of_row _ _ 2 _ _ HR9.o
  go_wp2_with fail
  exact bodyPost_ret (results_cell_row rfl _ _ (w.heap.size + 1) _ _ _ _ rfl (z5q HR9.o) Tryz.underlying43 rfl v0q) rfl ⟨⟨_, rfl, by rw [HV.o, ← HQ0.o]; exact HF9.o⟩, q4q HB9.o (q7q _ _ _ _ _) (by omega)⟩
 | true =>
  have hg := j2q hb
  rw [g5q hb] at KR
  by_cases hl : (xn : Int) = z
  ·
   have t0 : ((xn : Int) != z) = false := by simpa using hl
   have HV : Hi (y5q P xs = m9q P.goal xs) := hdd (by unfold y5q; rw [if_pos ⟨hb, by rw [← HEQ.o.2.2, ← HEQ.o.1]; exact hl⟩])
   have hgx : gn = xn := by have := HEQ.o; omega
   have HGX := hdd hgx
   clear hb hg hl hgx
   obtain ⟨Q, hQ⟩ := qx (m9q P.goal xs)
   have HQ0 := hdd hQ
   clear hQ
   go_enter Tryz.func38, Tryz.ntmps38
   go_wp2_with fail
   rw [HW1.o]
   refine (KR.o _ HB1.o).mono ?_
   rintro en2 w2 ⟨rfl, hb2⟩
   obtain ⟨x0, x1, x2, x3⟩ := qz RX.o hb2
   have HZ2 := hdd hb2
   clear hb2
   go_wp2_with fail
   refine (q1k).mono ?_
   rintro en3 w3 ⟨⟨g3, rfl, hg3⟩, hb3⟩
   have HZ3 := hdd (q0q HZ2.o hb3)
   have KP : Hi (Calls Tryz.prog 70 #[.func (.func 54) #[] #[.pointer (some ⟨g3, 0, none⟩)], .slice xa xn xc] w3 (h0q w3 Q)) := hdd (by
    rw [HQ0.o]
    have h9 := j7x hg3 (HG.o.below (q0q HB1.o HZ3.o)) (HX.o.below (q0q HB1.o HZ3.o)) (show xn ≤ gn by have := HGX.o; omega) HN.o (by have := HGX.o; omega) (by have h8 := HNN.o; rw [← HEQ.o.2.1, HGX.o] at h8; exact h8)
    have e9 : m9q P.goal xs = j8q (fun i => q9q P.goal i * q9q xs i) 0 xn := by unfold m9q; rw [HEQ.o.2.2]
    rw [e9]; exact h9)
   clear hg3 hb3
   go_wp2_with fail
   refine KP.o.mono ?_
   rintro en9 w9 ⟨⟨v9, rfl, f9⟩, hb9⟩
   obtain ⟨a9, n9, c9, i9, j9, k9, hq9⟩ := q8q f9
   subst hq9
   have HFQ := hdd f9
   have HZ9 := hdd (q0q HZ3.o hb9)
   clear f9 x0 x1 x2 x3
   have HR9 : Hi (w9.heap[w.heap.size + 1]? = some (.cells #[.bool false, .slice none 0 0, .slice none 0 0] 43 (0, 0))) := hdd ((HZ9.o.block _ (lt_of_block HR1.o)).trans HR1.o)
   have HF9 := hdd (HFQ.o.other HR9.o (q7q _ _ (decide (Q.num < 0)) (Value.slice a9 n9 c9) (Value.slice i9 j9 k9)))
   have HB9 := hdd (q0q HB1.o HZ9.o)
   have r0 := q1q HR9.o 0 _ rfl _ qb
   have r1 := q1q HR9.o 1 _ rfl _ qb
   have r2 := q1q HR9.o 2 _ rfl _ qb
   have z0 := frozen_of_row _ _ 0 _ _ HR9.o
   have z1 := frozen_of_row _ _ 1 _ _ HR9.o
   have z2 := frozen_of_row _ _ 2 _ _ HR9.o
   go_wp2_with fail
   exact bodyPost_ret (results_cell_row rfl _ _ (w.heap.size + 1) _ _ _ _ rfl (z5q HR9.o) Tryz.underlying43 rfl v0q) rfl ⟨⟨_, rfl, by rw [HV.o, ← HQ0.o]; exact HF9.o⟩, q4q HB9.o (q7q _ _ _ _ _) (by omega)⟩
  ·
   have t0 : ((xn : Int) != z) = true := by simpa using hl
   have HV : Hi (y5q P xs = 0) := hdd (by unfold y5q; rw [if_neg (fun h => hl (by rw [HEQ.o.2.2, HEQ.o.1]; exact h.2))])
   clear hb hg hl
   obtain ⟨Q, hQ⟩ := qx ((0 : Rat))
   have HQ0 := hdd hQ
   clear hQ
   go_enter Tryz.func38, Tryz.ntmps38
   go_wp2_with fail
   rw [HW1.o]
   refine (KR.o _ HB1.o).mono ?_
   rintro en2 w2 ⟨rfl, hb2⟩
   obtain ⟨x0, x1, x2, x3⟩ := qz RX.o hb2
   go_wp2_with fail
   refine (x1j (N := 1) (qs := []) ⟨none, 0, rfl, fun i q h => by simp at h⟩ (by decide) (by decide) (by decide)).mono ?_
   rintro en9 w9 ⟨⟨v9, rfl, f9⟩, hb9⟩
   have f9' : j3q w9 v9 Q := by rw [HQ0.o]; exact f9
   obtain ⟨a9, n9, c9, i9, j9, k9, hq9⟩ := q8q f9'
   subst hq9
   have HFQ := hdd f9'
   clear f9 f9'
   have HZ9 := hdd (q0q hb2 hb9)
   clear x0 x1 x2 x3
   have HR9 : Hi (w9.heap[w.heap.size + 1]? = some (.cells #[.bool false, .slice none 0 0, .slice none 0 0] 43 (0, 0))) := hdd ((HZ9.o.block _ (lt_of_block HR1.o)).trans HR1.o)
   have HF9 := hdd (HFQ.o.other HR9.o (q7q _ _ (decide (Q.num < 0)) (Value.slice a9 n9 c9) (Value.slice i9 j9 k9)))
   have HB9 := hdd (q0q HB1.o HZ9.o)
   have r0 := q1q HR9.o 0 _ rfl _ qb
   have r1 := q1q HR9.o 1 _ rfl _ qb
   have r2 := q1q HR9.o 2 _ rfl _ qb
   have z0 := frozen_of_row _ _ 0 _ _ HR9.o
   have z1 := frozen_of_row _ _ 1 _ _ HR9.o
   have z2 := frozen_of_row _ _ 2 _ _ HR9.o
   go_wp2_with fail
   exact bodyPost_ret (results_cell_row rfl _ _ (w.heap.size + 1) _ _ _ _ rfl (z5q HR9.o) Tryz.underlying43 rfl v0q) rfl ⟨⟨_, rfl, by rw [HV.o, ← HQ0.o]; exact HF9.o⟩, q4q HB9.o (q7q _ _ _ _ _) (by omega)⟩

theorem z2h (h : y9q N w v P) (hx : z1q N w x xs) (hs : w9q N P xs) :
  Calls Tryz.prog 84 #[v, x] w (h0q w (y5q P xs)) := by
 have HP := hdd h
 have HX := hdd hx
 obtain ⟨fa, fc, ga, gc, ra, rc, rfl, hz1, hz2, -, hG, -⟩ := h
 obtain ⟨xa, xc, rfl, -⟩ := hx
 have HG := hdd hG
 obtain ⟨hfit, hv100, hN, hNn, hx100⟩ := hs
 have HFIT := hdd hfit
 have HN := hdd hN
 have HNN := hdd hNn
 obtain ⟨w1, hw1, HB1, HX1, HR1⟩ := al2 w #[.int .i64 P.vars, .slice fa P.free.length fc, .slice ga P.goal.length gc, .slice ra P.rows.length rc] 26 #[.bool false, .slice none 0 0, .slice none 0 0] 43
 have HW1 := hdd hw1.symm
 obtain ⟨z, hz⟩ := qx (P.vars)
 obtain ⟨fn, hfn⟩ := qx (P.free.length)
 obtain ⟨gn, hgn⟩ := qx (P.goal.length)
 obtain ⟨rn, hrn⟩ := qx (P.rows.length)
 obtain ⟨xn, hxn⟩ := qx (xs.length)
 have KR := hdd (fun w' (hb : Below w.heap.size w w') => f7q (HP.o.below hb) HFIT.o)
 rw [← hz] at hz1 hz2 HX1 HW1 HP KR hv100
 rw [← hfn] at HX1 HW1 HP KR
 rw [← hgn] at HX1 HW1 HP KR HG
 rw [← hrn] at HX1 HW1 HP KR
 rw [← hxn] at HX hx100 ⊢
 rw [← hz, ← hfn, ← hgn, ← hrn]
 have HEQ := hdd (And.intro hz (And.intro hgn hxn))
 clear hw1 hG hN hNn hfit hz hfn hgn hrn hxn
 have RX := hdd (q1q HX1.o)
 cases hb : j7q P with
 | false =>
  have HV : Hi (y5q P xs = 0) := hdd (by unfold y5q; rw [hb]; simp)
  rw [x6q hb] at KR
  clear hb
  obtain ⟨Q, hQ⟩ := qx ((0 : Rat))
  have HQ0 := hdd hQ
  clear hQ
  go_enter Tryz.func84, Tryz.ntmps84
  go_wp2_with fail
  rw [HW1.o]
  refine (KR.o _ HB1.o).mono ?_
  rintro en2 w2 ⟨rfl, hb2⟩
  go_wp2_with fail
  refine (q0v).mono ?_
  rintro en9 w9 ⟨⟨v9, rfl, f9⟩, hb9⟩
  have f9' : j3q w9 v9 Q := by rw [HQ0.o]; exact f9
  obtain ⟨a9, n9, c9, i9, j9, k9, hq9⟩ := q8q f9'
  subst hq9
  have HFQ := hdd f9'
  clear f9 f9'
  have HZ9 := hdd (q0q hb2 hb9)
  have HR9 : Hi (w9.heap[w.heap.size + 1]? = some (.cells #[.bool false, .slice none 0 0, .slice none 0 0] 43 (0, 0))) := hdd ((HZ9.o.block _ (lt_of_block HR1.o)).trans HR1.o)
  have HF9 := hdd (HFQ.o.other HR9.o (q7q _ _ (decide (Q.num < 0)) (Value.slice a9 n9 c9) (Value.slice i9 j9 k9)))
  have HB9 := hdd (q0q HB1.o HZ9.o)
  have r0 := q1q HR9.o 0 _ rfl _ qb
  have r1 := q1q HR9.o 1 _ rfl _ qb
  have r2 := q1q HR9.o 2 _ rfl _ qb
  have z0 := frozen_of_row _ _ 0 _ _ HR9.o
  have z1 := frozen_of_row _ _ 1 _ _ HR9.o
  have z2 := frozen_of_row _ _ 2 _ _ HR9.o
  go_wp2_with fail
  exact bodyPost_ret (results_cell_row rfl _ _ (w.heap.size + 1) _ _ _ _ rfl (z5q HR9.o) Tryz.underlying43 rfl v0q) rfl ⟨⟨_, rfl, by rw [HV.o, ← HQ0.o]; exact HF9.o⟩, q4q HB9.o (q7q _ _ _ _ _) (by omega)⟩
 | true =>
  have hg := j2q hb
  rw [g5q hb] at KR
  by_cases hl : (xn : Int) = z
  ·
   have t0 : ((xn : Int) != z) = false := by simpa using hl
   have HV : Hi (y5q P xs = m9q P.goal xs) := hdd (by unfold y5q; rw [if_pos ⟨hb, by rw [← HEQ.o.2.2, ← HEQ.o.1]; exact hl⟩])
   have hgx : gn = xn := by have := HEQ.o; omega
   have HGX := hdd hgx
   clear hb hg hl hgx
   obtain ⟨Q, hQ⟩ := qx (m9q P.goal xs)
   have HQ0 := hdd hQ
   clear hQ
   go_enter Tryz.func84, Tryz.ntmps84
   go_wp2_with fail
   rw [HW1.o]
   refine (KR.o _ HB1.o).mono ?_
   rintro en2 w2 ⟨rfl, hb2⟩
   obtain ⟨x0, x1, x2, x3⟩ := qz RX.o hb2
   have HZ2 := hdd hb2
   clear hb2
   go_wp2_with fail
   have KP : Hi (Calls Tryz.prog 80 #[.slice ga gn gc, .slice xa xn xc] w2 (h0q w2 Q)) := hdd (by
    rw [HQ0.o]
    have e0 := HEQ.o
    have h9 := j9h (HG.o.below (q0q HB1.o HZ2.o)) (HX.o.below (q0q HB1.o HZ2.o)) HN.o (by have := HGX.o; omega) (by omega) (by have h8 := HNN.o; exact h8)
    have e9 : m9q P.goal xs = j8q (fun i => q9q P.goal i * q9q xs i) 0 (min P.goal.length xs.length) := by unfold m9q; rw [← e0.2.1, ← e0.2.2, HGX.o, Nat.min_self]
    rw [e9]; exact h9)
   refine KP.o.mono ?_
   rintro en9 w9 ⟨⟨v9, rfl, f9⟩, hb9⟩
   obtain ⟨a9, n9, c9, i9, j9, k9, hq9⟩ := q8q f9
   subst hq9
   have HFQ := hdd f9
   have HZ9 := hdd (q0q HZ2.o hb9)
   clear f9 x0 x1 x2 x3
   have HR9 : Hi (w9.heap[w.heap.size + 1]? = some (.cells #[.bool false, .slice none 0 0, .slice none 0 0] 43 (0, 0))) := hdd ((HZ9.o.block _ (lt_of_block HR1.o)).trans HR1.o)
   have HF9 := hdd (HFQ.o.other HR9.o (q7q _ _ (decide (Q.num < 0)) (Value.slice a9 n9 c9) (Value.slice i9 j9 k9)))
   have HB9 := hdd (q0q HB1.o HZ9.o)
   have r0 := q1q HR9.o 0 _ rfl _ qb
   have r1 := q1q HR9.o 1 _ rfl _ qb
   have r2 := q1q HR9.o 2 _ rfl _ qb
   have z0 := frozen_of_row _ _ 0 _ _ HR9.o
   have z1 := frozen_of_row _ _ 1 _ _ HR9.o
   have z2 := frozen_of_row _ _ 2 _ _ HR9.o
   go_wp2_with fail
   exact bodyPost_ret (results_cell_row rfl _ _ (w.heap.size + 1) _ _ _ _ rfl (z5q HR9.o) Tryz.underlying43 rfl v0q) rfl ⟨⟨_, rfl, by rw [HV.o, ← HQ0.o]; exact HF9.o⟩, q4q HB9.o (q7q _ _ _ _ _) (by omega)⟩
  ·
   have t0 : ((xn : Int) != z) = true := by simpa using hl
   have HV : Hi (y5q P xs = 0) := hdd (by unfold y5q; rw [if_neg (fun h => hl (by rw [HEQ.o.2.2, HEQ.o.1]; exact h.2))])
   clear hb hg hl
   obtain ⟨Q, hQ⟩ := qx ((0 : Rat))
   have HQ0 := hdd hQ
   clear hQ
   go_enter Tryz.func84, Tryz.ntmps84
   go_wp2_with fail
   rw [HW1.o]
   refine (KR.o _ HB1.o).mono ?_
   rintro en2 w2 ⟨rfl, hb2⟩
   obtain ⟨x0, x1, x2, x3⟩ := qz RX.o hb2
   go_wp2_with fail
   refine (q0v).mono ?_
   rintro en9 w9 ⟨⟨v9, rfl, f9⟩, hb9⟩
   have f9' : j3q w9 v9 Q := by rw [HQ0.o]; exact f9
   obtain ⟨a9, n9, c9, i9, j9, k9, hq9⟩ := q8q f9'
   subst hq9
   have HFQ := hdd f9'
   clear f9 f9'
   have HZ9 := hdd (q0q hb2 hb9)
   clear x0 x1 x2 x3
   have HR9 : Hi (w9.heap[w.heap.size + 1]? = some (.cells #[.bool false, .slice none 0 0, .slice none 0 0] 43 (0, 0))) := hdd ((HZ9.o.block _ (lt_of_block HR1.o)).trans HR1.o)
   have HF9 := hdd (HFQ.o.other HR9.o (q7q _ _ (decide (Q.num < 0)) (Value.slice a9 n9 c9) (Value.slice i9 j9 k9)))
   have HB9 := hdd (q0q HB1.o HZ9.o)
   have r0 := q1q HR9.o 0 _ rfl _ qb
   have r1 := q1q HR9.o 1 _ rfl _ qb
   have r2 := q1q HR9.o 2 _ rfl _ qb
   have z0 := frozen_of_row _ _ 0 _ _ HR9.o
   have z1 := frozen_of_row _ _ 1 _ _ HR9.o
   have z2 := frozen_of_row _ _ 2 _ _ HR9.o
   go_wp2_with fail
   exact bodyPost_ret (results_cell_row rfl _ _ (w.heap.size + 1) _ _ _ _ rfl (z5q HR9.o) Tryz.underlying43 rfl v0q) rfl ⟨⟨_, rfl, by rw [HV.o, ← HQ0.o]; exact HF9.o⟩, q4q HB9.o (q7q _ _ _ _ _) (by omega)⟩

end Go.Proofs.YtkkbmlkpgknhgaaGreat
