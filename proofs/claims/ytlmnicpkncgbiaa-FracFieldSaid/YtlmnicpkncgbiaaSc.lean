/- Fractions as texts: bytes put behind one another, bytes as a string. -/
import Derived.Test.YtlmnicpkncgbiaaSb
import Derived.Test.YtlmnicpkncgbiaaLa
import Derived.Laws.BytesString
namespace Go.Proofs.Ytlmnicpkncgbiaa
open Go.RowKit

/-- Bytes as a string. -/
def strL (L : List Nat) : ByteArray := ⟨(L.map UInt8.ofNat).toArray⟩
/-- A row of bytes of the call's own. -/
def OwnB (w : World) (base : Nat) (v : Value) (L : List Nat) : Prop := w.ownsRow base 5 1 v L.length (L.map By)
theorem OwnB.below {w w' : World} {base : Nat} {v : Value} {L : List Nat} (h : OwnB w base v L) (hb : Below w.heap.size w w') : OwnB w' base v L := by
  refine World.ownsRow.kept (row := none) h ⟨hb.os, hb.tape, hb.output, hb.size, fun k hk _ => hb.block k hk⟩ ?_
  cases hv : v.ownBlock <;> simp
theorem OwnB.nil (w : World) (base : Nat) : OwnB w base (.slice none 0 0) [] := World.ownsRow_nil w base _ 1
theorem OwnB.form {w : World} {base : Nat} {v : Value} {L : List Nat} (h : OwnB w base v L) (hL : L ≠ []) : ∃ g cap, v = .slice (some ⟨g, 0, none⟩) L.length cap ∧ ∀ j u, (L.map By)[j]? = some u → w.cell? ((⟨g, 0, none⟩ : Addr).add j) = some u := by
  have hc := fun g hg => World.ownsRow.cells h (g := g) hg
  rcases h.2 with ⟨rfl, h0⟩ | ⟨g, cap, cur, rfl, _, _, _, _, _, _⟩
  · exact absurd (List.eq_nil_of_length_eq_zero h0) hL
  · exact ⟨g, cap, rfl, hc g rfl⟩

theorem wpList_app_bytes {P : Program} {w0 w : World} {ops : Array Oper} {rest : List Oper} {o : Oper} {a : Act} {Q : Exit → Act → World → Prop} (hgd : o.guard = none) (s x : Operand) (t : TypeId)
    (ho : o.op = .call { callee := .builtin .append, args := #[s, x], argTypes := #[t, t] }) (ht : P.underlying t = some (.slice 5))
    (hi : (P.info? 5).map (fun i => (i.zero, i.size, i.bytes)) = some (some (.int .u8 0), 1, 1))
    (v : Value) (L : List Nat) (hs : a.eval s = v) (hown : OwnB w w0.heap.size v L) (hb : Below w0.heap.size w0 w)
    (g m c : Nat) (M : List Nat) (hx : a.eval x = .slice (some ⟨g, 0, none⟩) m c) (hm : M.length = m) (hcell : ∀ j u, (M.map By)[j]? = some u → w.cell? ((⟨g, 0, none⟩ : Addr).add j) = some u)
    (h63 : L.length + m ≤ 1000000)
    (h : ∀ v' w', OwnB w' w0.heap.size v' (L ++ M) → Below w0.heap.size w0 w' → wpList P ops Q rest (a.put o.dst v') w') : wpList P ops Q (o :: rest) a w := by
  obtain ⟨i, hi, hz, hs1, hb1⟩ := info_parts hi
  subst hm
  refine wpList_append_own_at w hgd s x t ho w0.heap.size 5 i (.int .u8 0) 1 1 ht hi hz hs1 hb1 rfl (by decide) v L.length (L.map By) hs hown ⟨g, 0, none⟩ M.length c (M.map By) hx (by simp) hcell ?_ (by unfold maxLen; omega) (by omega) hb.size ?_
  · intro u hu
    obtain ⟨n, _, rfl⟩ := List.mem_map.1 hu
    rfl
  · intro v' w' hown' hgrow _ _
    refine h v' w' ?_ (hb.grown hgrow hb.size (fun k hk => (World.ownsRow.lt hown k hk).1))
    unfold OwnB
    rw [List.length_append, List.map_append]
    exact hown'

theorem foldl_push (ns : List Nat) : ∀ s : ByteArray, (ns.map (fun n : Nat => (n : Int))).foldl (fun r n => r.push (UInt8.ofNat n.toNat)) s = ⟨s.data ++ (ns.map UInt8.ofNat).toArray⟩ := by
  induction ns with
  | nil => intro s; simp
  | cons n ns ih =>
    intro s
    simp only [List.map_cons, List.foldl_cons, Int.toNat_natCast]
    rw [ih]
    simp [ByteArray.push]
theorem run_bytes_string {w : World} {base : Nat} {v : Value} {L : List Nat} (h : OwnB w base v L) (hL : L ≠ []) :
    (convert 86 9 v).run Try.prog w = .ok (.string (strL L)) w := by
  obtain ⟨g, cap, rfl, hc⟩ := h.form hL
  rw [run_convert_bytes_string w 86 9 5 _ _ _ Try.underlying86 Try.underlying5 Try.underlying9]
  have hl := run_loadCells_list (P := Try.prog) (w := w) ⟨g, 0, none⟩ (L.map By) hc
  rw [List.length_map] at hl
  have e : L.map By = (L.map (fun n : Nat => (n : Int))).map (Value.int .u8) := by rw [List.map_map]; rfl
  rw [e] at hl
  rw [run_bytesToString w ⟨g, 0, none⟩ L.length cap _ hl, foldl_push]
  unfold strL
  simp

/-- A fraction as text. -/
def tailL (q : Rat) : List Nat := if q.den = 1 then [] else 47 :: decS q.den
def headL (b : Bool) : List Nat := if b then [45] else []
def printL (q : Rat) : List Nat := headL (decide (q.num < 0)) ++ decS q.num.natAbs ++ tailL q
end Go.Proofs.Ytlmnicpkncgbiaa
