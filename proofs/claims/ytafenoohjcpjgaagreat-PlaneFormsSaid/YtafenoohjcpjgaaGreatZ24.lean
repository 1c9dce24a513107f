/- Several texts in one: Y5, Y6. -/
import Derived.Test.YtafenoohjcpjgaaGreatZ23
import Derived.Deep.RegionHeld3
/- A region that draws its order, with a condition that holds until one last operation: x.f = append(x.f, ..), which reads the cell that it stores into in the end. -/
namespace Go.Proofs.YtafenoohjcpjgaaGreat
open Go.RowKit

section
variable {P : Program} {ops : Array Oper} {Q : Exit → Act → World → Prop} {md : Region.Mode} {S : World → Prop} {L : Nat}

/-- Whatever order is picked: S holds behind every operation but number L. -/
def AnyTo (P : Program) (md : Region.Mode) (ops : Array Oper) (Q : Exit → Act → World → Prop) (S : World → Prop) (L : Nat) : Nat → Array Bool → Act → World → Prop
  | 0, ls, a, w => Region.ready md ops ls = [] ∧ Q .normal a w
  | k + 1, ls, a, w => (Region.ready md ops ls = [] → Q .normal a w) ∧
    ∀ i ∈ Region.ready md ops ls, wpOp P ops Q i (fun a' w' => (i ≠ L → S w') ∧ AnyTo P md ops Q S L k (ls.setIfInBounds i true) a' w') a w
theorem any_of_to : ∀ (k : Nat) (ls : Array Bool) (a : Act) (w : World), AnyTo P md ops Q S L k ls a w → wpAny P md ops Q k ls a w := by
  intro k
  induction k with
  | zero => exact fun _ _ _ h => h
  | succ k ih => exact fun ls a w h => ⟨h.1, fun i hi => wpOp_mono (fun a' w' h' => ih _ a' w' h'.2) (h.2 i hi)⟩
/-- Number L waits for number i. -/
def waitsFor (md : Region.Mode) (ops : Array Oper) (L i : Nat) : Bool :=
  match ops[L]? with
  | some o => o.after.any fun e => Region.binds md e && e.on == i
  | none => false
theorem not_yet {i : Nat} {ls : Array Bool} (hw : waitsFor md ops L i = true) (hi : i ∈ Region.ready md ops ls) : L ∉ Region.ready md ops ls := by
  intro hL
  obtain ⟨-, oL, hoL, hall⟩ := mem_ready.1 hL
  have hun := (mem_ready.1 hi).1
  unfold waitsFor at hw
  rw [hoL] at hw
  simp only [Array.any_eq_true'] at hw
  obtain ⟨e, he, hb⟩ := hw
  rw [Bool.and_eq_true, beq_iff_eq] at hb
  have h1 := hall e he hb.1
  rw [hb.2] at h1
  rcases Nat.lt_or_ge i ls.size with h9 | h9
  · simp [h9] at hun h1
    rw [hun] at h1; cases h1
  · simp [Array.getElem?_eq_none h9] at h1

theorem to_first {i : Nat} {oi : Oper} {v : Value} (hi : ops[i]? = some oi) (hsel : ∀ (j : Nat) (o : Oper) cs b, ops[j]? = some o → o.op ≠ .select cs b)
    (hQ : ∀ c a w, Q (.panic c) (a.put oi.dst v) w → Q (.panic c) a w) (hw : waitsFor md ops L i = true) (hiL : i ≠ L) :
    ∀ (k : Nat) (ls : Array Bool) (a : Act) (w : World),
      (∀ j oj, ops[j]? = some oj → j ≠ i → ls.getD j true = false → (∀ e ∈ oj.after, Region.binds md e = true → e.on ≠ i) → oi.apart ops oj = true) →
      i ∈ Region.ready md ops ls → YieldsIf P ops S oi v a → S w →
      AnyTo P md ops Q S L k (ls.setIfInBounds i true) (a.put oi.dst v) w → AnyTo P md ops Q S L (k + 1) ls a w := by
  intro k
  induction k with
  | zero =>
    intro ls a w _ hr hy hS H
    refine ⟨fun h => (by rw [h] at hr; cases hr), fun j hj => ?_⟩
    by_cases hji : j = i
    · subst hji
      exact hy.wpOp hi hS ⟨fun _ => hS, H⟩
    · have h9 := ready_mono hj hji
      rw [H.1] at h9
      cases h9
  | succ k ih =>
    intro ls a w hfree hr hy hS H
    refine ⟨fun h => (by rw [h] at hr; cases hr), fun j hj => ?_⟩
    by_cases hji : j = i
    · subst hji
      exact hy.wpOp hi hS ⟨fun _ => hS, H⟩
    · have hjL : j ≠ L := fun e => not_yet hw hr (e ▸ hj)
      have h1 := H.2 j (ready_mono hj hji)
      obtain ⟨hjun, oj, hoj, hall⟩ := mem_ready.1 hj
      have hno : ∀ e ∈ oj.after, Region.binds md e = true → e.on ≠ i := fun e he hb heq => by
        have g1 := hall e he hb
        have g0 := (mem_ready.1 hr).1
        rw [heq] at g1
        rcases Nat.lt_or_ge i ls.size with h9 | h9
        · simp [h9] at g0 g1
          rw [g0] at g1; cases g1
        · simp [Array.getElem?_eq_none h9] at g1
      have h2 := wpOp_putIf hoj (hfree j oj hoj hji hjun hno) (fun cs b => hsel i oi cs b hi) (fun cs b => hsel j oj cs b hoj) hQ hy h1
      refine wpOp_mono (fun a' w' h3 => ⟨fun _ => h3.2.1 hjL, ih (ls.setIfInBounds j true) a' w' ?_ (ready_mono hr (Ne.symm hji)) h3.1 (h3.2.1 hjL) ?_⟩) h2
      · intro m om hm hmi hun hnm
        refine hfree m om hm hmi ?_ hnm
        by_cases hjm : j = m
        · subst hjm; exact hjun
        · rw [getD_set_ne true hjm] at hun; exact hun
      · rw [Array.setIfInBounds_comm _ _ hji]
        exact h3.2.2
/-- Number i first: it yields v wherever S holds. -/
theorem to_take {i : Nat} {oi : Oper} {v : Value} {k : Nat} {ls : Array Bool} {a : Act} {w : World} (hi : ops[i]? = some oi)
    (hs : Region.noSelect ops = true) (hf : Region.free md ops ls i = true) (hr : (Region.ready md ops ls).contains i = true)
    (hQ : ∀ c a w, Q (.panic c) (a.put oi.dst v) w → Q (.panic c) a w) (hw : waitsFor md ops L i = true) (hiL : i ≠ L) (hy : YieldsIf P ops S oi v a) (hS : S w)
    (h : AnyTo P md ops Q S L k (ls.setIfInBounds i true) (a.put oi.dst v) w) : AnyTo P md ops Q S L (k + 1) ls a w :=
  to_first hi (Region.noSelect_spec hs) hQ hw hiL k ls a w (Region.free_spec hi hf) (by simpa using hr) hy hS h
/-- Each of those that may come up. -/
def AllTo (P : Program) (md : Region.Mode) (ops : Array Oper) (Q : Exit → Act → World → Prop) (S : World → Prop) (L k : Nat) (ls : Array Bool) (a : Act) (w : World) (rs : List Nat) : Prop :=
  ∀ i ∈ rs, wpOp P ops Q i (fun a' w' => (i ≠ L → S w') ∧ AnyTo P md ops Q S L k (ls.setIfInBounds i true) a' w') a w
theorem to_ready {rs : List Nat} {k : Nat} {ls : Array Bool} {a : Act} {w : World} (hr : Region.ready md ops ls = rs) (hne : rs ≠ []) (h : AllTo P md ops Q S L k ls a w rs) : AnyTo P md ops Q S L (k + 1) ls a w :=
  ⟨fun h0 => absurd (hr ▸ h0) hne, fun i hi => h i (hr ▸ hi)⟩
theorem AllTo.nil {k : Nat} {ls : Array Bool} {a : Act} {w : World} : AllTo P md ops Q S L k ls a w [] := fun _ h => by cases h
theorem AllTo.cons {k : Nat} {ls : Array Bool} {a : Act} {w : World} {i : Nat} {o : Oper} {rs : List Nat} (ho : ops[i]? = some o)
    (h : ∀ K : Act → World → Prop, Shut (∀ a w, (i ≠ L → S w) → ((i ≠ L → S w) → AnyTo P md ops Q S L k (ls.setIfInBounds i true) a w) → K a w) → if Region.wanted o (yielded ops a.tmps) = true then Oper.wp P o a w K Q else K (a.put o.dst undef) w)
    (hs : AllTo P md ops Q S L k ls a w rs) : AllTo P md ops Q S L k ls a w (i :: rs) := fun j hj => by
  rcases List.mem_cons.1 hj with e | hj
  · rw [e]
    exact wpOp_step ho (fun K' hK => h K' (fun a w hS hW => hK a w ⟨hS, hW hS⟩))
  · exact hs j hj
theorem to_done {ls : Array Bool} {a : Act} {w : World} (hr : Region.ready md ops ls = []) (h : Q .normal a w) : ∀ k, AnyTo P md ops Q S L k ls a w
  | 0 => ⟨hr, h⟩
  | _ + 1 => ⟨fun _ => h, by rw [hr]; simp⟩
/-- The beginning. -/
theorem wp_region_to {id : Nat} {a : Act} {w : World} (L : Nat) (S : World → Prop) (hm : P.follows .mixedOrders = true) (hS : S w.drew)
    (h : S w.drew → AnyTo P .any ops Q S L ops.size (Array.replicate ops.size false) a w.drew) : (Code.region id ops true).wp P Q a w :=
  wp_region_any hm (any_of_to _ _ _ _ (h hS))
end
end Go.Proofs.YtafenoohjcpjgaaGreat

/- Clones: append to an empty list; a list of Booleans. -/
namespace Go.Proofs.YtafenoohjcpjgaaGreat
open Go.RowKit

/-- Append to an empty list that is not nil: a block of its own with the same cells. -/
theorem oper_clone {w : World} {o : Oper} {a : Act} {K : Act → World → Prop} {Q : Exit → Act → World → Prop} (s x : Operand) (t e : TypeId)
    (ho : o.op = .call { callee := .builtin .append, args := #[s, x], argTypes := #[t, t] }) (i : TypeInfo) (z : Value) (ht : Tryz.prog.underlying t = some (.slice e)) (hi : Tryz.prog.info? e = some i) (hz : i.zero = some z)
    (g : Nat) (hs : a.eval s = .slice (some ⟨g, 0, none⟩) 0 0) (ar : Addr) (n c : Nat) (news : List Value) (hx : a.eval x = .slice (some ar) n c) (hl : news.length = n * i.size) (hnews : ∀ j v, news[j]? = some v → w.cell? (ar.add j) = some v)
    (hn : 0 < n) (h63 : n ≤ 1000000) (hby : i.bytes ≤ 100)
    (h : ∀ G cap w', (∃ Z : Array Value, w'.heap[G]? = some (.cells (news.toArray ++ Z) e (0, 0))) → G = w.heap.size → (∀ W : World, Below W.heap.size W w → Below W.heap.size W w') → K (a.put o.dst (.slice (some ⟨G, 0, none⟩) n cap)) w') :
    Oper.wp Tryz.prog o a w K Q := by
  have hb : n * i.bytes ≤ 1000000 * 100 := Nat.mul_le_mul h63 hby
  have hr := run_append_grow (P := Tryz.prog) (w := w) t o.type e i z ht hi hz ⟨g, 0, none⟩ 0 0 [] (by simp) (fun j v hv => by simp at hv) ar n c news hl hnews (by omega) (by omega) (growslice_fits (by omega) (by simp only [Nat.zero_add]; omega))
  unfold Oper.wp execOp
  simp only [ho, resolve, invoke, builtin, Sem.run_bind, Sem.run_pure, Result.andThen_ok, List.map_toArray, List.map_cons, List.map_nil, hs, hx, hr]
  have h9 := h w.heap.size (grownCap w (0 + n) 0 e) (w.drew.alloc (.cells (news.toArray ++ Builtin.zeroCells z.cells (grownCap w (0 + n) 0 e - (0 + n))) e)) ⟨_, heap_alloc_new w.drew _⟩ rfl (fun W hW => (below_drewN hW 1).alloc hW.size _)
  simpa [Oper.upon] using h9
theorem wpList_clone {w : World} {ops : Array Oper} {rest : List Oper} {o : Oper} {a : Act} {Q : Exit → Act → World → Prop} (hgd : o.guard = none) (s x : Operand) (t e : TypeId)
    (ho : o.op = .call { callee := .builtin .append, args := #[s, x], argTypes := #[t, t] }) (i : TypeInfo) (z : Value) (ht : Tryz.prog.underlying t = some (.slice e)) (hi : Tryz.prog.info? e = some i) (hz : i.zero = some z)
    (g : Nat) (hs : a.eval s = .slice (some ⟨g, 0, none⟩) 0 0) (ar : Addr) (n c : Nat) (news : List Value) (hx : a.eval x = .slice (some ar) n c) (hl : news.length = n * i.size) (hnews : ∀ j v, news[j]? = some v → w.cell? (ar.add j) = some v)
    (hn : 0 < n) (h63 : n ≤ 1000000) (hby : i.bytes ≤ 100)
    (h : ∀ G cap w', (∃ Z : Array Value, w'.heap[G]? = some (.cells (news.toArray ++ Z) e (0, 0))) → G = w.heap.size → (∀ W : World, Below W.heap.size W w → Below W.heap.size W w') → wpList Tryz.prog ops Q rest (a.put o.dst (.slice (some ⟨G, 0, none⟩) n cap)) w') :
    wpList Tryz.prog ops Q (o :: rest) a w :=
  wpList_plain hgd fun _ hK => oper_clone s x t e ho i z ht hi hz g hs ar n c news hx hl hnews hn h63 hby fun G cap w' h1 h2 h3 => hK _ _ (h G cap w' h1 h2 h3)
theorem info_bool9 : (Tryz.prog.info? 4).map (fun i => (i.zero, i.size, i.bytes)) = some (some (Value.bool false), 1, 1) := by kernel_rfl
section
attribute [local go_sem ↓] Go.wp_at_zero Go.wp_at_succ
set_option maxRecDepth 8000 in
set_option maxHeartbeats 2000000 in
theorem bclone_w {w : World} {a : Option Addr} {n c : Nat} {bs : List Bool} (h : BoolsF w a bs) (hn : n = bs.length) (h1 : 0 < n) (hn2 : n ≤ 1000) :
    Calls Tryz.prog 51 #[.slice a n c] w fun e w' => (∃ a' c', e = .returned (.slice a' n c') ∧ BoolsF w' a' bs) ∧ Below w.heap.size w w' := by
  obtain ⟨b0, B, off, hb0, rfl, -⟩ := h.at (i := 0) (by omega)
  obtain ⟨i0, hi0, hz0, hz1, hz2⟩ := info_parts info_bool9
  have H := Lib.hid h
  have HN := Lib.hid hn
  have HI := Lib.hid (And.intro hi0 (And.intro hz0 (And.intro hz1 hz2)))
  have hcmp : ∀ w', Sem.run Tryz.prog (binOp BinOp.eql 22 (Value.slice (some ⟨B, off, none⟩) n c) (Value.slice none 0 0)) w' = Result.ok (Value.bool false) w' := fun _ => rfl
  clear h hb0 hn hi0 hz0 hz1 hz2
  obtain ⟨w1, hw1⟩ : ∃ w1, w1 = w.alloc (Obj.cells #[] 4) := ⟨_, rfl⟩
  have HB1 : Hid (Below w.heap.size w w1) := Lib.hid (by rw [hw1]; exact (Below.refl _ _).alloc (Nat.le_refl _) _)
  go_enter Tryz.func51, Tryz.ntmps51
  go_wp2_with (at_builtin; rw [← hw1]; refine wpList_clone rfl _ _ 22 4 rfl i0 (Value.bool false) Tryz.underlying22 HI.out.1 HI.out.2.1 w.heap.size rfl ⟨B, off, none⟩ n c (bs.map Value.bool) rfl (by rw [HI.out.2.2.1, List.length_map, HN.out, Nat.mul_one]) (by
    intro j v hv
    rw [List.getElem?_map] at hv
    cases hb : bs[j]? with
    | none => rw [hb] at hv; cases hv
    | some b =>
      rw [hb] at hv
      cases hv
      obtain ⟨B', off', ha, hc⟩ := (H.out.below HB1.out) j b hb
      cases ha
      rw [Addr.add_lit]
      exact hc) h1 (by omega) (by rw [HI.out.2.2.2]; omega) ?_; intro G cap w2 hz2 hg2 hb2; clear hg2; refine halt ?_)
  refine go_on ?_
  have HB2 : Hid (Below w.heap.size w w2) := Lib.hid (hb2 w HB1.out)
  have HBF : Hid (BoolsF w2 (some ⟨G, 0, none⟩) bs) := Lib.hid (fun i b hi => ⟨G, 0, rfl, by
    obtain ⟨Z, hz⟩ := hz2
    rw [cell_of_row _ _ _ _ _ _ hz, Nat.zero_add]
    have hlt : i < bs.length := (List.getElem?_eq_some_iff.1 hi).1
    rw [Array.getElem?_append_left (by simpa using hlt), List.getElem?_toArray, List.getElem?_map, hi]
    rfl⟩)
  clear hz2 hb2
  clear hw1 hcmp
  go_wp2_with fail
  go_ret
  exact ⟨⟨_, _, rfl, HBF.out⟩, HB2.out⟩
end
end Go.Proofs.YtafenoohjcpjgaaGreat
