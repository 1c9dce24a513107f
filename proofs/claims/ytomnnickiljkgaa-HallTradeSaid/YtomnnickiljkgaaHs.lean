/- A number or a truth value stored into a block of the call's own, as a law. -/
import Derived.Test.YtomnnickiljkgaaHf
import Derived.Laws.CopyRow
import Derived.Laws.Rows
namespace Go.Proofs.Ytomnnickiljkgaa
open Go.RowKit

/-- A guard: the next operation is a store. -/
theorem at_store {P : Program} {w : World} {ops : Array Oper} {rest : List Oper} {dst : Option Tmp} {type : TypeId} {pos : String} {after : Array Edge} {guard : Option (Nat × Bool)} {ty : TypeId} {x y : Operand} {a : Act} {Q : Exit → Act → World → Prop}
    (h : wpList P ops Q (⟨dst, .store ty x y, type, pos, after, guard⟩ :: rest) a w) : wpList P ops Q (⟨dst, .store ty x y, type, pos, after, guard⟩ :: rest) a w := h
theorem set_list {α : Type} (l : List α) (k : Nat) (x : α) (hk : k < l.length) : l.take (0 + k) ++ [x] ++ l.drop (k + 0 + 1) = l.set k x := by
  rw [List.append_assoc]
  apply List.ext_getElem?
  intro i
  have ht : (l.take (0 + k)).length = k := by simp; omega
  by_cases h1 : i < k
  · rw [List.getElem?_append_left (by omega), List.getElem?_take_of_lt (by omega), List.getElem?_set_ne (by omega)]
  · rw [List.getElem?_append_right (by omega), ht]
    by_cases h2 : i = k
    · subst h2
      rw [Nat.sub_self, List.getElem?_set_self hk]; rfl
    · rw [List.getElem?_append_right (by simp; omega), List.getElem?_drop, List.getElem?_set_ne (by omega)]
      congr 1
      simp; omega
theorem run_storeVar_cell {P : Program} (w : World) (g k : Nat) (t ty : TypeId) (cur : List Value) (v : Value) (hg : w.heap[g]? = some (.cells cur.toArray t (0, 0))) (hi : (P.info? ty).map (·.size) = some 1) (hk : k < cur.length) (hv : v.cells = #[v]) (h1 : v.oneCell' = true) :
    (storeVar ty ⟨g, k, none⟩ v).run P w = .ok () (w.setRow g (cur.set k v).toArray) := by
  have h := run_storeCells_at (P := P) g k t [v] 0 cur.toArray w hg (by simp; omega) (by simpa using h1)
  have e : cur.toArray.toList.take (k + 0) ++ [v] ++ cur.toArray.toList.drop (k + 0 + [v].length) = cur.set k v := by
    have := set_list cur k v hk
    rw [Nat.zero_add] at this
    simpa using this
  rw [e] at h
  cases hq : P.info? ty with
  | none => simp [hq] at hi
  | some i =>
    have hsz : i.size = 1 := by simpa [hq] using hi
    simp [storeVar, Sem.run_bind, sizeOf, typeInfo, hq, hsz, hv, h]
theorem int_size : (Try.prog.info? 3).map (·.size) = some 1 := by kernel_rfl
theorem bool_size : (Try.prog.info? 4).map (·.size) = some 1 := by kernel_rfl
theorem wpList_store_int {ops : Array Oper} {rest : List Oper} {o : Oper} {a : Act} {w : World} {Q : Exit → Act → World → Prop} (hgd : o.guard = none) (x y : Operand) (ho : o.op = .store 3 x y)
    (g k : Nat) (hx : a.eval x = .pointer (some ⟨g, k, none⟩)) (z : Int) (hy : a.eval y = .int .i64 z) (l : List Int) (hg : BlkI w g l) (hk : k < l.length)
    (h : ∀ w', BlkI w' g (l.set k z) → Only g w w' → wpList Try.prog ops Q rest (a.put o.dst undef) w') : wpList Try.prog ops Q (o :: rest) a w := by
  refine wpList_plain hgd fun K hK => ?_
  unfold Oper.wp execOp
  have hr := run_storeVar_cell (P := Try.prog) w g k 3 3 (l.map (Value.int .i64)) (.int .i64 z) hg int_size (by simpa using hk) rfl rfl
  simp only [ho, hx, hy, Instr.storeAt, Instr.sureAddr, Sem.run_bind, Sem.run_pure, Result.andThen_ok, hr]
  refine hK _ _ (h _ ?_ ⟨rfl, rfl, rfl, by simp [World.setRow], fun k hk => setRow_other w g k _ hk⟩)
  have h9 := setRow_heap w g (l.map (Value.int .i64)).toArray ((l.map (Value.int .i64)).set k (.int .i64 z)).toArray 3 _ hg
  unfold BlkI
  rw [h9, List.map_set]
theorem wpList_store_bool {ops : Array Oper} {rest : List Oper} {o : Oper} {a : Act} {w : World} {Q : Exit → Act → World → Prop} (hgd : o.guard = none) (x y : Operand) (ho : o.op = .store 4 x y)
    (g k : Nat) (hx : a.eval x = .pointer (some ⟨g, k, none⟩)) (z : Bool) (hy : a.eval y = .bool z) (t : TypeId) (l : List Bool) (hg : BlkT w g t l) (hk : k < l.length)
    (h : ∀ w', BlkT w' g t (l.set k z) → Only g w w' → wpList Try.prog ops Q rest (a.put o.dst undef) w') : wpList Try.prog ops Q (o :: rest) a w := by
  refine wpList_plain hgd fun K hK => ?_
  unfold Oper.wp execOp
  have hr := run_storeVar_cell (P := Try.prog) w g k t 4 (l.map Value.bool) (.bool z) hg bool_size (by simpa using hk) rfl rfl
  simp only [ho, hx, hy, Instr.storeAt, Instr.sureAddr, Sem.run_bind, Sem.run_pure, Result.andThen_ok, hr]
  refine hK _ _ (h _ ?_ ⟨rfl, rfl, rfl, by simp [World.setRow], fun k hk => setRow_other w g k _ hk⟩)
  have h9 := setRow_heap w g (l.map Value.bool).toArray ((l.map Value.bool).set k (.bool z)).toArray t _ hg
  unfold BlkT
  rw [h9, List.map_set]
end Go.Proofs.Ytomnnickiljkgaa
