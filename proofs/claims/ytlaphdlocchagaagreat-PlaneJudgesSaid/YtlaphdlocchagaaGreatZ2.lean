/- Several texts in one: P. -/
import Derived.Test.YtlaphdlocchagaaGreatZ1
import Derived.WalkKit
import Derived.WalkSpells
import Derived.WalkLawsBesides
import Derived.Lib.Hide
import Derived.Laws.CopyOwn
import Derived.BigQuiet
import Derived.Deep.QuietTactic
/- What a slice of words reads as in a world; a block of words that a call has made; how both stand over steps of the world. -/
namespace Go.Proofs.YtlaphdlocchagaaGreat
open Go.RowKit

/-- To stop a walk behind a law, and to go on. -/
theorem halt {p : Prop} (h : Hid p) : p := h
theorem go_on {p : Prop} (h : p) : Hid p := h

/-! ### Quiet calls in a region that draws, of contracts that name the caller's world on the left -/
theorem quiet_left {P : Program} {f : FuncId} {args : Array Value} {w : World} {n : Nat} {v : Value}
    (h : Calls P f args (w.drewN n) fun e w' => e = .returned v ∧ w.drewN n = w') : Calls P f args (w.drewN n) fun e w'' => e = .returned v ∧ ∃ m, w'' = w.drewN m :=
  h.mono fun _ _ ⟨he, hm⟩ => ⟨he, n, hm.symm⟩
theorem quiet_add_left {P : Program} {f : FuncId} {args : Array Value} {w : World} {a n : Nat} {v : Value}
    (h : Calls P f args (w.drewN (a + n)) fun e w' => e = .returned v ∧ w.drewN (a + n) = w') :
    Calls P f args (w.drewN (a + n)) fun e w'' => e = .returned v ∧ ∃ m, w'' = w.drewN (a + m) :=
  h.mono fun _ _ ⟨he, hm⟩ => ⟨he, n, hm.symm⟩
theorem quiet_add {P : Program} {f : FuncId} {args : Array Value} {w : World} {a n : Nat} {v : Value}
    (h : Calls P f args (w.drewN (a + n)) fun e w' => e = .returned v ∧ ∃ m, w' = (w.drewN (a + n)).drewN m) :
    Calls P f args (w.drewN (a + n)) fun e w'' => e = .returned v ∧ ∃ m, w'' = w.drewN (a + m) :=
  h.mono fun _ _ ⟨he, m, hm⟩ => ⟨he, n + m, by rw [hm, World.drewN_drewN, Nat.add_assoc]⟩

/-- A word as a value. -/
def U (n : Nat) : Value := .int .u32 n

/-- At an address these cells stand in old memory (nothing is asked where there are none). -/
def Cells (w : World) (a : Option Addr) (cs : List Value) : Prop :=
  cs ≠ [] → ∃ b off, a = some ⟨b, off, none⟩ ∧ b < w.heap.size ∧ ∀ j (h : j < cs.length), w.cell? ⟨b, off + j, none⟩ = some cs[j]

/-- A slice of words. -/
def IsW (w : World) (v : Value) (l : List Nat) : Prop :=
  ∃ a cap, v = .slice a l.length cap ∧ l.length ≤ cap ∧ l.length ≤ 1073741824 ∧ Ws l ∧ Cells w a (l.map U) ∧ (l ≠ [] → ∀ x, a = some x → x.block < w.heap.size)

/-- The words of a block that is all words. -/
def Blk (w : World) (B : Nat) (e : TypeId) (l : List Nat) : Prop := w.heap[B]? = some (.cells (l.map U).toArray e (0, 0))

/-- Nothing but the block B has turned, and no block is new. -/
structure Only (B : Nat) (w w' : World) : Prop where
  os : w'.os = w.os
  tape : w'.tape = w.tape
  output : w'.output = w.output
  size : w'.heap.size = w.heap.size
  block : ∀ k, k ≠ B → w'.heap[k]? = w.heap[k]?

theorem Only.refl (B : Nat) (w : World) : Only B w w := ⟨rfl, rfl, rfl, rfl, fun _ _ => rfl⟩
theorem Only.trans {B : Nat} {a b c : World} (h : Only B a b) (k : Only B b c) : Only B a c :=
  ⟨k.os.trans h.os, k.tape.trans h.tape, k.output.trans h.output, k.size.trans h.size, fun i hi => (k.block i hi).trans (h.block i hi)⟩
theorem Only.drewN {B : Nat} {a w : World} (h : Only B a w) (n : Nat) : Only B a (w.drewN n) := ⟨h.os, h.tape, h.output, h.size, h.block⟩
theorem Only.drew {B : Nat} {a w : World} (h : Only B a w) : Only B a w.drew := ⟨h.os, h.tape, h.output, h.size, h.block⟩
theorem Only.setCell {B : Nat} {a w : World} (h : Only B a w) (i : Nat) (v : Value) : Only B a (w.setCell ⟨B, i, none⟩ v) :=
  h.trans ⟨rfl, rfl, rfl, by simp [World.setCell], fun k hk => Below.heap_setCell _ _ _ _ (by simpa using hk)⟩
theorem Only.below {B N : Nat} {w w' : World} (h : Only B w w') (hN : N ≤ B) : Below N w w' :=
  ⟨h.os, h.tape, h.output, Nat.le_of_eq h.size.symm, fun k hk => h.block k (by omega)⟩
theorem below_only {N B : Nat} {a w w' : World} (h : Below N a w) (k : Only B w w') (hN : N ≤ B) : Below N a w' := h.trans (k.below hN)

theorem below_drewN {B : Nat} {a w : World} (h : Below B a w) (n : Nat) : Below B a (w.drewN n) := ⟨h.os, h.tape, h.output, h.size, h.block⟩
theorem below_undraw {B n : Nat} {a w : World} (h : Below B (a.drewN n) w) : Below B a w := ⟨h.os, h.tape, h.output, h.size, h.block⟩
theorem below_undrew {B : Nat} {a w : World} (h : Below B a.drew w) : Below B a w := ⟨h.os, h.tape, h.output, h.size, h.block⟩
theorem below_trans' {N : Nat} {a b c : World} (h : Below N a b) (k : Below b.heap.size b c) (hN : N ≤ b.heap.size) : Below N a c := h.trans (k.mono hN)
/-- Two calls' worth: what was there before both stands. -/
theorem below_trans {a b c : World} (h : Below a.heap.size a b) (k : Below b.heap.size b c) : Below a.heap.size a c := h.trans (k.mono h.size)

/-! ### Cells -/
theorem Cells.of_blocks {w w' : World} {a : Option Addr} {cs : List Value} (h : Cells w a cs) (hs : w.heap.size ≤ w'.heap.size)
    (hb : ∀ x, a = some x → w'.heap[x.block]? = w.heap[x.block]?) : Cells w' a cs := by
  intro hne
  obtain ⟨b, off, rfl, hlt, hc⟩ := h hne
  exact ⟨b, off, rfl, by omega, fun j hj => by rw [World.cell?_of_block (w := w) (a := ⟨b, off + j, none⟩) (hb ⟨b, off, none⟩ rfl)]; exact hc j hj⟩
theorem Cells.below {w w' : World} {a : Option Addr} {cs : List Value} (h : Cells w a cs) (hb : Below w.heap.size w w') : Cells w' a cs := by
  intro hne
  obtain ⟨b, off, rfl, hlt, hc⟩ := h hne
  exact ⟨b, off, rfl, Nat.lt_of_lt_of_le hlt hb.size, fun j hj => by rw [hb.cell hlt]; exact hc j hj⟩
theorem Cells.below' {N : Nat} {w w' : World} {b off : Nat} {cs : List Value} (h : Cells w (some ⟨b, off, none⟩) cs) (hN : b < N) (hb : Below N w w') : Cells w' (some ⟨b, off, none⟩) cs :=
  h.of_blocks hb.size fun x hx => by cases hx; exact hb.block _ hN
theorem Cells.nil (w : World) (a : Option Addr) : Cells w a [] := fun h => absurd rfl h
theorem Cells.take {w : World} {a : Option Addr} {cs : List Value} (h : Cells w a cs) (k : Nat) : Cells w a (cs.take k) := by
  intro hne
  have hne' : cs ≠ [] := by rintro rfl; simp at hne
  obtain ⟨b, off, rfl, hlt, hc⟩ := h hne'
  refine ⟨b, off, rfl, hlt, fun j hj => ?_⟩
  have hj' : j < cs.length := by rw [List.length_take] at hj; omega
  rw [hc j hj', List.getElem_take]

/-- A cell that is there stays there. -/
theorem cell_below {w w' : World} {b o : Nat} {v : Value} (hb : Below w.heap.size w w') (hc : w.cell? ⟨b, o, none⟩ = some v) : w'.cell? ⟨b, o, none⟩ = some v := by
  rw [hb.cell (p := ⟨b, o, none⟩)]
  · exact hc
  · show b < w.heap.size
    rcases Nat.lt_or_ge b w.heap.size with h | h
    · exact h
    · have hc' := hc
      simp [World.cell?, Array.getElem?_eq_none h] at hc'

/-! ### Slices of words -/
theorem IsW.below {w w' : World} {v : Value} {l : List Nat} (h : IsW w v l) (hb : Below w.heap.size w w') : IsW w' v l := by
  obtain ⟨a, cap, rfl, h1, h2, h3, h4, h5⟩ := h
  exact ⟨a, cap, rfl, h1, h2, h3, h4.below hb, fun hne x hx => Nat.lt_of_lt_of_le (h5 hne x hx) hb.size⟩
theorem IsW.only {w w' : World} {B : Nat} {v : Value} {l : List Nat} (h : IsW w v l) (hb : Only B w w') (hv : v.ownBlock ≠ some B) : IsW w' v l := by
  obtain ⟨a, cap, rfl, h1, h2, h3, h4, h5⟩ := h
  refine ⟨a, cap, rfl, h1, h2, h3, h4.of_blocks (Nat.le_of_eq hb.size.symm) ?_, fun hne x hx => by rw [hb.size]; exact h5 hne x hx⟩
  rintro x rfl
  exact hb.block _ (fun e => hv (by simp [Value.ownBlock, e]))
/-- An empty slice is empty in whatever world, wherever it points. -/
theorem IsW.empty {w w' : World} {v : Value} (h : IsW w v []) : IsW w' v [] := by
  obtain ⟨a, cap, rfl, h1, h2, h3, h4, h5⟩ := h
  exact ⟨a, cap, rfl, h1, h2, h3, Cells.nil _ _, fun hne => absurd rfl hne⟩
theorem IsW.only0 {w w' : World} {B : Nat} {v : Value} {l : List Nat} (h : IsW w v l) (hb : Only B w w') (hv : l ≠ [] → v.ownBlock ≠ some B) : IsW w' v l := by
  by_cases hl : l = []
  · subst hl; exact h.empty
  · exact h.only hb (hv hl)
theorem IsW.drewN {w : World} {v : Value} {l : List Nat} (h : IsW w v l) (n : Nat) : IsW (w.drewN n) v l := h
theorem IsW.drew {w : World} {v : Value} {l : List Nat} (h : IsW w v l) : IsW w.drew v l := h
theorem IsW.ws {w : World} {v : Value} {l : List Nat} (h : IsW w v l) : Ws l := by obtain ⟨_, _, _, _, _, h, _, _⟩ := h; exact h
theorem IsW.len {w : World} {v : Value} {l : List Nat} (h : IsW w v l) : l.length ≤ 1073741824 := by obtain ⟨_, _, _, _, h, _, _, _⟩ := h; exact h
theorem IsW.nil (w : World) : IsW w (.slice none 0 0) [] := ⟨none, 0, rfl, Nat.zero_le _, by simp, ws_nil, Cells.nil _ _, fun h => absurd rfl h⟩
/-- The block of a slice of words lies in the world. -/
theorem IsW.own_lt {w : World} {v : Value} {l : List Nat} (h : IsW w v l) (hne : l ≠ []) : ∀ b, v.ownBlock = some b → b < w.heap.size := by
  obtain ⟨a, cap, rfl, h1, h2, h3, h4, h5⟩ := h
  intro b hb
  cases a with
  | none => simp [Value.ownBlock] at hb
  | some x => simp [Value.ownBlock] at hb; subst hb; exact h5 hne x rfl
theorem IsW.own_ne {w : World} {v : Value} {l : List Nat} (h : IsW w v l) {B : Nat} (hB : w.heap.size ≤ B) : l ≠ [] → v.ownBlock ≠ some B := fun hne e => by have := h.own_lt hne B e; omega
/-- A word of a slice, read. -/
theorem IsW.cell {w : World} {b off : Nat} {n cap : Nat} {l : List Nat} (h : IsW w (.slice (some ⟨b, off, none⟩) n cap) l) (j : Nat) (hj : j < l.length) :
    w.cell? ⟨b, off + j, none⟩ = some (.int .u32 (nth l j)) := by
  obtain ⟨a, cap', hv, h1, h2, h3, h4, h5⟩ := h
  cases hv
  obtain ⟨b', off', he, hlt, hc⟩ := h4 (by intro e; simp at e; subst e; simp at hj)
  cases he
  rw [hc j (by simpa using hj)]
  simp [U, nth, List.getD_eq_getElem?_getD, List.getElem?_eq_getElem hj]

theorem IsW.take {w : World} {a : Option Addr} {n cap : Nat} {l : List Nat} (h : IsW w (.slice a n cap) l) (k c : Nat) (hk : k ≤ l.length) (hc : k ≤ c) : IsW w (.slice a k c) (l.take k) := by
  obtain ⟨a', cap', hv, h1, h2, h3, h4, h5⟩ := h
  cases hv
  have e : (l.take k).length = k := by simp; omega
  refine ⟨a, c, by rw [e], by omega, by omega, ws_take h3 k, ?_⟩
  rw [List.map_take]
  exact ⟨h4.take k, fun hne => h5 (fun e => hne (by rw [e]; simp))⟩

theorem IsW.drop {w : World} {b off n cap : Nat} {l : List Nat} (h : IsW w (.slice (some ⟨b, off, none⟩) n cap) l) (k m c : Nat) (hk : k ≤ l.length) (hm : m = l.length - k) (hc : m ≤ c) :
    IsW w (.slice (some ⟨b, off + k, none⟩) m c) (l.drop k) := by
  have hcell := h.cell
  obtain ⟨a', cap', hv, h1, h2, h3, h4, h5⟩ := h
  cases hv
  have e : (l.drop k).length = m := by simp; omega
  refine ⟨some ⟨b, off + k, none⟩, c, by rw [e], by omega, by omega, ws_drop h3 k, ?_, fun hne x hx => by cases hx; exact h5 (fun e => hne (by rw [e]; simp)) ⟨b, off, none⟩ rfl⟩
  intro hne
  refine ⟨b, off + k, rfl, h5 (fun e => hne (by rw [e]; simp)) ⟨b, off, none⟩ rfl, fun j hj => ?_⟩
  rw [List.length_map, e] at hj
  have := hcell (k + j) (by omega)
  rw [Nat.add_assoc, this]
  simp [U, nth, List.getD_eq_getElem?_getD, List.getElem?_eq_getElem (show k + j < l.length by omega)]

/-! ### Blocks of words -/
theorem Blk.lt {w : World} {B : Nat} {e : TypeId} {l : List Nat} (h : Blk w B e l) : B < w.heap.size := lt_of_block h
theorem Blk.cell {w : World} {B : Nat} {e : TypeId} {l : List Nat} (h : Blk w B e l) (j : Nat) (hj : j < l.length) :
    w.cell? ⟨B, j, none⟩ = some (.int .u32 (nth l j)) := by
  have h' : w.heap[B]? = some (.cells (l.map U).toArray e (0, 0)) := h
  simp [World.cell?, h', U, nth, List.getD_eq_getElem?_getD, List.getElem?_eq_getElem hj]
theorem Blk.free {w : World} {B : Nat} {e : TypeId} {l : List Nat} (h : Blk w B e l) (j : Nat) : w.frozen? ⟨B, j, none⟩ = false := by
  have h' : w.heap[B]? = some (.cells (l.map U).toArray e (0, 0)) := h
  simp [World.frozen?, h']
theorem Blk.setCell {w : World} {B : Nat} {e : TypeId} {l : List Nat} (h : Blk w B e l) (k x : Nat) (v : Value) (hv : v = U x) : Blk (w.setCell ⟨B, k, none⟩ v) B e (l.set k x) := by
  have h' : w.heap[B]? = some (.cells (l.map U).toArray e (0, 0)) := h
  subst hv
  simp [Blk, World.setCell, Array.getElem?_modify, h', List.map_set]
theorem Blk.below {N : Nat} {w w' : World} {B : Nat} {e : TypeId} {l : List Nat} (h : Blk w B e l) (hb : Below N w w') (hN : B < N) : Blk w' B e l := by
  unfold Blk; rw [hb.block B hN]; exact h
theorem Blk.only {w w' : World} {B C : Nat} {e : TypeId} {l : List Nat} (h : Blk w B e l) (hb : Only C w w') (hN : B ≠ C) : Blk w' B e l := by
  unfold Blk; rw [hb.block B hN]; exact h
theorem Blk.drewN {w : World} {B : Nat} {e : TypeId} {l : List Nat} (h : Blk w B e l) (n : Nat) : Blk (w.drewN n) B e l := h
theorem Blk.drew {w : World} {B : Nat} {e : TypeId} {l : List Nat} (h : Blk w B e l) : Blk w.drew B e l := h
/-- A part of a block of words is a slice of words. -/
theorem Blk.isW {w : World} {B : Nat} {e : TypeId} {l : List Nat} (h : Blk w B e l) (hw : Ws l) (off n cap : Nat) (hn : off + n ≤ l.length) (hc : n ≤ cap) (hl : n ≤ 1073741824) :
    IsW w (.slice (some ⟨B, off, none⟩) n cap) ((l.drop off).take n) := by
  have hlen : ((l.drop off).take n).length = n := by simp; omega
  refine ⟨some ⟨B, off, none⟩, cap, by rw [hlen], by omega, by omega, ws_take (ws_drop hw _) _, fun _ => ⟨B, off, rfl, h.lt, fun j hj => ?_⟩, fun _ x hx => by cases hx; exact h.lt⟩
  rw [List.length_map, hlen] at hj
  rw [h.cell (off + j) (by omega)]
  simp [U, nth, List.getD_eq_getElem?_getD, List.getElem?_eq_getElem (show off + j < l.length by omega)]
theorem Blk.isW_all {w : World} {B : Nat} {e : TypeId} {l : List Nat} (h : Blk w B e l) (hw : Ws l) (cap : Nat) (hc : l.length ≤ cap) (hl : l.length ≤ 1073741824) :
    IsW w (.slice (some ⟨B, 0, none⟩) l.length cap) l := by
  have := h.isW hw 0 l.length cap (by omega) hc hl
  simpa using this

/-! ### Making -/
theorem madeCells_one (z : Value) (n : Nat) : madeCells #[z] n = (List.replicate n z).toArray := by
  apply Array.ext'
  rw [toList_madeCells_one]

theorem wpList_make_words {P : Program} {w : World} {ops : Array Oper} {rest : List Oper} {o : Oper} {a : Act} {Q : Exit → Act → World → Prop}
    (hg : o.guard = none) (l c : Operand) (t e : TypeId) (hop : o.op = Op.makeSlice t l c) (h1 : P.underlying t = some (.slice e))
    (h2 : (P.info? e).map (fun i => (i.zero, i.size, i.bytes)) = some (some (.int .u32 0), 1, 4)) (n : Nat) (hl : a.eval l = .int .i64 n) (hc : a.eval c = .int .i64 n) (hn : n ≤ 1073741824)
    (hK : ∀ w', Blk w' w.heap.size e (List.replicate n 0) → Below w.heap.size w w' → Hid (w'.heap.size = w.heap.size + 1) → wpList P ops Q rest (a.put o.dst (.slice (some ⟨w.heap.size, 0, none⟩) n n)) w') :
    wpList P ops Q (o :: rest) a w := by
  obtain ⟨i, hi, hz, hs, hb⟩ := info_parts h2
  refine wpList_plain hg fun K hK' => ?_
  have hr := run_make (P := P) w t e i _ h1 hi hz .i64 .i64 n n (by omega) (Int.le_refl _) (by rw [hb]; omega) (by omega)
  simp only [Int.toNat_natCast, hs, Value.cells, madeCells_one, Nat.mul_one] at hr
  unfold Oper.wp
  simp [execOp, hop, hl, hc, hr, Result.andThen]
  refine hK' _ _ (hK _ ?_ ((Below.refl _ _).alloc (Nat.le_refl _) _) (Lib.hid (by simp)))
  show (w.heap.push _)[w.heap.size]? = _
  simp [U]

/-- A product's words lie in new memory, or in that of what was handed in. -/
theorem own_ne3 {B W : Nat} {r u v : Value} (h : ∀ b, r.ownBlock = some b → W ≤ b ∨ u.ownBlock = some b ∨ v.ownBlock = some b) (hB : B < W) (hu : u.ownBlock ≠ some B) (hv : v.ownBlock ≠ some B) : r.ownBlock ≠ some B := by
  intro e
  rcases h B e with h1 | h1 | h1
  · omega
  · exact hu h1
  · exact hv h1

/-- The same, where the size stands there as a sum. -/
theorem wpList_make_words' {P : Program} {w : World} {ops : Array Oper} {rest : List Oper} {o : Oper} {a : Act} {Q : Exit → Act → World → Prop}
    (hg : o.guard = none) (l c : Operand) (t e : TypeId) (hop : o.op = Op.makeSlice t l c) (h1 : P.underlying t = some (.slice e))
    (h2 : (P.info? e).map (fun i => (i.zero, i.size, i.bytes)) = some (some (.int .u32 0), 1, 4)) (n : Nat) (L C : Int) (hl : a.eval l = .int .i64 L) (hc : a.eval c = .int .i64 C) (hL : L = n) (hC : C = n) (hn : n ≤ 1073741824)
    (hK : ∀ w', Blk w' w.heap.size e (List.replicate n 0) → Below w.heap.size w w' → Hid (w'.heap.size = w.heap.size + 1) → wpList P ops Q rest (a.put o.dst (.slice (some ⟨w.heap.size, 0, none⟩) n n)) w') :
    wpList P ops Q (o :: rest) a w := by
  subst hL hC; exact wpList_make_words hg l c t e hop h1 h2 n hl hc hn hK

/-! ### Copying -/
theorem u_oneCell (l : List Nat) : ∀ u ∈ l.map U, u.oneCell' = true := by
  intro u hu
  obtain ⟨_, _, rfl⟩ := List.mem_map.1 hu
  rfl

/-- A guard: the next operation is a copy. -/
theorem at_copy {P : Program} {w : World} {ops : Array Oper} {rest : List Oper} {dst : Option Tmp} {type : TypeId} {pos : String} {after : Array Edge} {guard : Option (Nat × Bool)} {args : Array Operand} {ts : Array TypeId} {a : Act} {Q : Exit → Act → World → Prop}
    (h : wpList P ops Q (⟨dst, .call { callee := .builtin .copy, args := args, argTypes := ts }, type, pos, after, guard⟩ :: rest) a w) : wpList P ops Q (⟨dst, .call { callee := .builtin .copy, args := args, argTypes := ts }, type, pos, after, guard⟩ :: rest) a w := h

/-- 'copy' of words into a block that is all words. -/
theorem wpList_copy_words {P : Program} {w : World} {ops : Array Oper} {rest : List Oper} {o : Oper} {a : Act} {Q : Exit → Act → World → Prop} (hgd : o.guard = none) (d s : Operand) (dT sT : TypeId)
    (ho : o.op = .call { callee := .builtin .copy, args := #[d, s], argTypes := #[dT, sT] }) (elem : TypeId) (hu : P.underlying dT = some (.slice elem)) (hsz : (P.info? elem).map (·.size) = some 1)
    (g off dLen dCap : Nat) (v : Value) (l cur : List Nat) (e : TypeId) (hd : a.eval d = .slice (some ⟨g, off, none⟩) dLen dCap) (hs : a.eval s = v) (hv : IsW w v l) (hb : Blk w g e cur)
    (hle : l.length ≤ dLen) (hfit : off + l.length ≤ cur.length)
    (h : ∀ w', Blk w' g e (cur.take off ++ (l ++ cur.drop (off + l.length))) → Only g w w' → wpList P ops Q rest (a.put o.dst (goInt l.length)) w') :
    wpList P ops Q (o :: rest) a w := by
  obtain ⟨sa, cap, rfl, h1, h2, h3, h4, h5⟩ := hv
  by_cases h0 : l = []
  · subst h0
    refine wpList_copy_nothing hgd d s dT sT ho elem hu hsz _ sa dLen dCap 0 cap hd hs (by simp) ?_
    exact h w (by simpa using hb) (Only.refl _ _)
  · obtain ⟨b, so, rfl, hlt, hc⟩ := h4 (by simpa using h0)
    have hmin : (l.map U).length = Nat.min l.length dLen := by rw [List.length_map]; exact (Nat.min_eq_left hle).symm
    refine wpList_copy_own hgd d s dT sT ho elem hu hsz g off dLen dCap ⟨b, so, none⟩ l.length cap hd hs (cur.map U).toArray e hb (l.map U) hmin ?_ (by simpa using hfit) (u_oneCell l) ?_
    · intro j x hj
      obtain ⟨hj1, hj2⟩ := List.getElem?_eq_some_iff.1 hj
      rw [Addr.add_lit, hc j hj1, hj2]
    · rw [List.length_map]
      refine h _ ?_ ⟨rfl, rfl, rfl, by simp [World.setRow], fun k hk => setRow_other w g k _ hk⟩
      show _ = _
      rw [setRow_heap w g _ _ e _ hb]
      simp [List.map_take, List.map_drop]

/-- What a copy to the head of new words leaves. -/
theorem copied_new (l : List Nat) (n : Nat) : (List.replicate n 0).take 0 ++ (l ++ (List.replicate n 0).drop (0 + l.length)) = l ++ List.replicate (n - l.length) 0 := by
  simp

/-- A struct's own block never holds the words of a slice: so a store into it leaves every slice of words. -/
theorem IsW.other {w w' : World} {v : Value} {l : List Nat} {B : Nat} {cs : Array Value} {t : TypeId} {fr : Nat × Nat} (h : IsW w v l) (hB : w.heap[B]? = some (.cells cs t fr))
    (hcs : ∀ (j k : Nat), cs[j]? ≠ some (U k)) (ho : Only B w w') : IsW w' v l := by
  by_cases hv : v.ownBlock = some B
  · obtain ⟨a, cap, rfl, h1, h2, h3, h4, h5⟩ := h
    cases l with
    | nil => exact ⟨a, cap, rfl, h1, h2, h3, Cells.nil _ _, fun hne => absurd rfl hne⟩
    | cons k ks =>
      exfalso
      obtain ⟨b, off, rfl, hlt, hc⟩ := h4 (by simp)
      have e : b = B := by simpa [Value.ownBlock] using hv
      subst e
      have h9 := hc 0 (by simp)
      rw [cell_of_row _ _ _ _ _ _ hB] at h9
      exact hcs _ k h9
  · exact h.only ho hv
theorem num_cells9 {u : Value} {b : Bool} (hu : ∃ a n c, u = .slice a n c) : ∀ (j k : Nat), (#[u, .bool b] : Array Value)[j]? ≠ some (U k) := by
  obtain ⟨a, n, c, rfl⟩ := hu
  intro j k h
  match j, h with
  | 0, h => simp [U] at h
  | 1, h => simp [U] at h
  | (j + 2), h => simp at h
theorem own_ne0 {B W : Nat} {r u v : Value} {lr lu lv : List Nat} (h : ∀ b, r.ownBlock = some b → W ≤ b ∨ u.ownBlock = some b ∨ v.ownBlock = some b) (hB : B < W) (hu : lu ≠ [] → u.ownBlock ≠ some B) (hv : lv ≠ [] → v.ownBlock ≠ some B)
    (h1 : lr ≠ [] → lu ≠ []) (h2 : lr ≠ [] → lv ≠ []) : lr ≠ [] → r.ownBlock ≠ some B := by
  intro hne e
  rcases h B e with h3 | h3 | h3
  · omega
  · exact hu (h1 hne) h3
  · exact hv (h2 hne) h3
theorem mul_ne1 {p q : Nat} (h : digs (p * q) ≠ []) : digs p ≠ [] := fun e => h (by rw [digs_eq_nil.1 e, Nat.zero_mul, digs_zero])
theorem mul_ne2 {p q : Nat} (h : digs (p * q) ≠ []) : digs q ≠ [] := fun e => h (by rw [digs_eq_nil.1 e, Nat.mul_zero, digs_zero])
end Go.Proofs.YtlaphdlocchagaaGreat
