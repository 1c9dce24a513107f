/- Several texts in one: La, Lb, Lc, H1. -/
import Derived.Test.YtlaphdlocchagaaGreatZ15
import Derived.Test.YtlaphdlocchagaaGreatRows
import Derived.WalkKit
import Derived.ProofKit
import Derived.OpenShut
import Derived.ShutString
import Derived.ChangeOld
import Derived.ChangeArms
import Derived.Carry
import Derived.Lib.SmallJoins
/- The order of rational numbers beside sums, products and floors; fractions by what they stand for. -/
namespace Go.Proofs.YtlaphdlocchagaaGreat
open Go.RowKit

theorem cmpQ_add (a b c : Rat) : cmpQ (a + c) (b + c) = cmpQ a b := by
  have h : (a + c = b + c) ↔ a = b := ⟨Rat.add_right_cancel c, fun h => by rw [h]⟩
  unfold cmpQ
  simp only [h, Rat.add_lt_add_right]
theorem cmpQ_sub (a b : Rat) : cmpQ (a - b) 0 = cmpQ a b := by
  rw [← cmpQ_add (a - b) 0 b, Rat.sub_add_cancel, Rat.zero_add]
theorem cmpQ_self (a : Rat) : cmpQ a a = 0 := by
  unfold cmpQ; rw [if_neg Rat.lt_irrefl, if_pos rfl]
theorem cmpQ_neg (a b : Rat) : cmpQ (-a) (-b) = cmpQ b a := by
  have h : (-a = -b) ↔ b = a := ⟨fun h => by rw [← Rat.neg_neg a, h, Rat.neg_neg], fun h => by rw [h]⟩
  unfold cmpQ
  simp only [h, Rat.neg_lt_neg_iff]
theorem cmpQ_mul_pos (a b c : Rat) (hc : 0 < c) : cmpQ (a * c) (b * c) = cmpQ a b := by
  have h : (a * c = b * c) ↔ a = b := by
    refine ⟨fun h => ?_, fun h => by rw [h]⟩
    have h1 : ¬ a < b := fun e => by have := (Rat.mul_lt_mul_right hc).2 e; rw [h] at this; exact Rat.lt_irrefl this
    have h2 : ¬ b < a := fun e => by have := (Rat.mul_lt_mul_right hc).2 e; rw [h] at this; exact Rat.lt_irrefl this
    exact Rat.le_antisymm (Rat.not_lt.1 h2) (Rat.not_lt.1 h1)
  unfold cmpQ
  simp only [h, Rat.mul_lt_mul_right hc]
theorem cmpQ_mul (a b c : Rat) : cmpQ (a * c) (b * c) = cmpQ a b * cmpQ c 0 := by
  by_cases h0 : c = 0
  · subst h0
    rw [Rat.mul_zero, Rat.mul_zero, cmpQ_self, Int.mul_zero]
  · by_cases hc : c < 0
    · have hd : 0 < -c := by have := Rat.neg_lt_neg hc; simpa using this
      have e : ∀ x : Rat, x * c = -(x * -c) := fun x => by rw [Rat.mul_neg, Rat.neg_neg]
      have e2 : cmpQ c 0 = -1 := by unfold cmpQ; rw [if_pos hc]
      rw [e a, e b, cmpQ_neg, cmpQ_mul_pos _ _ _ hd, cmpQ_swap, e2]; omega
    · have hd : 0 < c := Rat.lt_of_le_of_ne (Rat.not_lt.1 hc) (Ne.symm h0)
      have e2 : cmpQ c 0 = 1 := by unfold cmpQ; rw [if_neg hc, if_neg h0]
      rw [cmpQ_mul_pos _ _ _ hd, e2, Int.mul_one]
theorem cmpQ_cases (a b : Rat) : (cmpQ a b = -1 ∧ a < b) ∨ (cmpQ a b = 0 ∧ a = b) ∨ (cmpQ a b = 1 ∧ b < a) := by
  by_cases h : a < b
  · exact .inl ⟨by unfold cmpQ; rw [if_pos h], h⟩
  · by_cases h2 : a = b
    · exact .inr (.inl ⟨by rw [h2, cmpQ_self], h2⟩)
    · exact .inr (.inr ⟨by unfold cmpQ; rw [if_neg h, if_neg h2], Rat.lt_of_le_of_ne (Rat.not_lt.1 h) (Ne.symm h2)⟩)
theorem lt_trans_q {a b c : Rat} (h1 : a < b) (h2 : b < c) : a < c :=
  Rat.not_le.1 fun h => Rat.not_le.2 h2 (Rat.le_trans h (Rat.le_of_lt h1))
theorem cmpQ_trans (a b c : Rat) (h : cmpQ a b = cmpQ b c) : cmpQ a c = cmpQ a b := by
  rcases cmpQ_cases a b with ⟨e, h1⟩ | ⟨e, h1⟩ | ⟨e, h1⟩
  · rcases cmpQ_cases b c with ⟨f, h2⟩ | ⟨f, h2⟩ | ⟨f, h2⟩
    · rw [e]; unfold cmpQ; rw [if_pos (lt_trans_q h1 h2)]
    · omega
    · omega
  · rcases cmpQ_cases b c with ⟨f, h2⟩ | ⟨f, h2⟩ | ⟨f, h2⟩
    · omega
    · rw [e, h1, h2, cmpQ_self]
    · omega
  · rcases cmpQ_cases b c with ⟨f, h2⟩ | ⟨f, h2⟩ | ⟨f, h2⟩
    · omega
    · omega
    · have h3 := lt_trans_q h2 h1
      have h4 : ¬ a < c := Rat.not_lt.2 (Rat.le_of_lt h3)
      have h5 : a ≠ c := fun e => by subst e; exact Rat.lt_irrefl h3
      rw [e]; unfold cmpQ; rw [if_neg h4, if_neg h5]
theorem cmpQ_small (a b : Rat) : -1 ≤ cmpQ a b ∧ cmpQ a b ≤ 1 := by
  rcases cmpQ_cases a b with ⟨e, _⟩ | ⟨e, _⟩ | ⟨e, _⟩ <;> omega
theorem cmp_floor (a : Rat) : cmpQ (a.floor : Rat) a ≤ 0 := by
  have h := Rat.floor_le a
  rcases cmpQ_cases (a.floor : Rat) a with ⟨e, _⟩ | ⟨e, _⟩ | ⟨e, h1⟩
  · omega
  · omega
  · exact absurd h1 (Rat.not_lt.2 h)
theorem cmp_floor_one (a : Rat) : cmpQ ((a.floor : Rat) + 1) a = 1 := by
  have h := Rat.lt_floor_add_one a
  rw [Rat.intCast_add] at h
  have h' : a < (a.floor : Rat) + 1 := h
  rcases cmpQ_cases ((a.floor : Rat) + 1) a with ⟨e, h1⟩ | ⟨e, h1⟩ | ⟨e, _⟩
  · exact absurd h' (Rat.not_lt.2 (Rat.le_of_lt h1))
  · rw [h1] at h'; exact absurd h' Rat.lt_irrefl
  · exact e

/-- A fraction as it comes, by what it stands for. -/
def InF (w : World) (v : Value) (q : Rat) : Prop := ∃ b l m, RawF w v b l m ∧ q = fixR b l m
theorem InF.below {w w' : World} {v : Value} {q : Rat} (h : InF w v q) (hb : Below w.heap.size w w') : InF w' v q := by
  obtain ⟨b, l, m, h1, h2⟩ := h
  exact ⟨b, l, m, h1.below hb, h2⟩
theorem InF.len {w : World} {v : Value} {q : Rat} (h : InF w v q) : lenQ q ≤ 4096 := by
  obtain ⟨b, l, m, ⟨u, d, rfl, hu, hd⟩, rfl⟩ := h
  exact fix_len hu.ws hd.ws
theorem right_digs {q : Rat} (h : lenQ q ≤ 4096) : rightB (decide (q.num < 0)) (digs q.num.natAbs) (digs q.den) = true := by
  have h1 : val (digs q.num.natAbs) = q.num.natAbs := val_digs _
  have h2 : val (digs q.den) = q.den := val_digs _
  have h3 : digs q.den ≠ [] := fun e => by rw [e] at h2; have := q.den_nz; exact this (by rw [← h2]; rfl)
  unfold rightB shortF normB oneB
  simp only [Bool.and_eq_true, decide_eq_true_eq, Bool.not_eq_true']
  refine ⟨h, norm_digs _, norm_digs _, ?_, ?_, ?_⟩
  · unfold nilB; simpa using h3
  · by_cases h4 : q.num < 0
    · have h5 : digs q.num.natAbs ≠ [] := fun e => by rw [e] at h1; have : (0 : Nat) = q.num.natAbs := h1; omega
      have h6 : nilB (digs q.num.natAbs) = false := by unfold nilB; simpa using h5
      rw [h6]; simp
    · simp [h4]
  · rw [h1, h2]; exact q.reduced
theorem fix_digs {q : Rat} (h : lenQ q ≤ 4096) : fixR (decide (q.num < 0)) (digs q.num.natAbs) (digs q.den) = q := by
  unfold fixR
  rw [if_pos (right_digs h), val_digs, val_digs]
  have e : (if decide (q.num < 0) = true then -((q.num.natAbs : Nat) : Int) else ((q.num.natAbs : Nat) : Int)) = q.num := by
    by_cases h4 : q.num < 0
    · simp [h4]; omega
    · simp [h4]; omega
  rw [e]
  exact Rat.mkRat_self q
theorem FracV.inF {w : World} {v : Value} {q : Rat} (h : FracV w v q) (hl : lenQ q ≤ 4096) : InF w v q := by
  obtain ⟨u, d, rfl, hu, hd⟩ := h
  exact ⟨_, _, _, ⟨_, _, rfl, hu, hd⟩, (fix_digs hl).symm⟩

theorem fix_f {w : World} {x : Value} {P : Rat} (hx : InF w x P) : Calls Tryz.prog 84 #[x] w (TellPost w P) := by
  obtain ⟨b, l, m, h, rfl⟩ := hx
  exact fix_w h
theorem neg_f {w : World} {x : Value} {P : Rat} (hx : InF w x P) : Calls Tryz.prog 45 #[x] w (TellPost w (-P)) := by
  obtain ⟨b, l, m, h, rfl⟩ := hx
  exact neg_q h
theorem cmp_f {w : World} {x y : Value} {P S : Rat} (hx : InF w x P) (hy : InF w y S) : Calls Tryz.prog 24 #[x, y] w fun e w' => e = .returned (.int .i64 (cmpQ P S)) ∧ Below w.heap.size w w' := by
  obtain ⟨b, l, m, h, rfl⟩ := hx
  obtain ⟨c, l2, m2, k, rfl⟩ := hy
  exact cmp_q h k
theorem sign_f {w : World} {x : Value} {P : Rat} (hx : InF w x P) : Calls Tryz.prog 29 #[x] w fun e w' => e = .returned (.int .i64 (cmpQ P 0)) ∧ Below w.heap.size w w' := by
  obtain ⟨b, l, m, h, rfl⟩ := hx
  exact sign_q h
theorem one_make : makeQ 1 1 = 1 := by decide +kernel
theorem make_one {w : World} : Calls Tryz.prog 142 #[.int .i64 1, .int .i64 1] w fun e w' => (∃ r, e = .returned (.tuple #[r, .int .i64 0]) ∧ FracV w' r 1 ∧ NewF w r) ∧ Below w.heap.size w w' := by
  have := make_q (w := w) 1 1 (by decide) (by decide) (by decide) (by decide)
  rw [one_make] at this
  exact this
/-- What has at most n words of each kind. -/
def FewF (n : Nat) (w : World) (v : Value) (q : Rat) : Prop := ∃ b l m, RawF w v b l m ∧ q = fixR b l m ∧ l.length ≤ n ∧ m.length ≤ n
theorem FewF.inF {n : Nat} {w : World} {v : Value} {q : Rat} (h : FewF n w v q) : InF w v q := by
  obtain ⟨b, l, m, h1, h2, _, _⟩ := h
  exact ⟨b, l, m, h1, h2⟩
theorem FewF.below {n : Nat} {w w' : World} {v : Value} {q : Rat} (h : FewF n w v q) (hb : Below w.heap.size w w') : FewF n w' v q := by
  obtain ⟨b, l, m, h1, h2⟩ := h
  exact ⟨b, l, m, h1.below hb, h2⟩
theorem FewF.len {n : Nat} {w : World} {v : Value} {q : Rat} (h : FewF n w v q) : lenQ q ≤ 2 * n + 1 := by
  obtain ⟨b, l, m, ⟨u, d, rfl, hu, hd⟩, rfl, h1, h2⟩ := h
  by_cases hr : rightB b l m = true
  · obtain ⟨e1, e2, _, _⟩ := right_rat hu.ws hd.ws hr
    unfold lenQ; rw [← e1, ← e2]; omega
  · have : fixR b l m = 0 := by unfold fixR; rw [if_neg hr]
    rw [this, len_zero]; omega
end Go.Proofs.YtlaphdlocchagaaGreat

/- Arguments that are fractions, as they come in. -/
namespace Go.Proofs.YtlaphdlocchagaaGreat
open Go.ChangeShapes Go.WideShapes Go.ChangeAt Go.RowKit

theorem own_knob : ownKnob Tryz.prog.godebug = none := by kernel_rfl
theorem laid_out : laidOutB Tryz.prog = true := by kernel_rfl
theorem cells_u32 : Tryz.prog.cellsOf 124 = 1 := by kernel_rfl
theorem cells_frac : Tryz.prog.cellsOf 47 = 3 := by kernel_rfl
theorem cell_types_frac : Tryz.prog.cellTypes Tryz.prog.depth 47 = some [4, 45, 45] := by kernel_rfl

/-- What is known of a slice of words that came in: if it is not too long, it reads as words. -/
def MayW (w : World) (v : Value) (n : Nat) : Prop := n ≤ 1073741824 → ∃ l, l.length = n ∧ IsW w v l

theorem shape_lt {w : World} {r : Nat} {x : TypeId × Nat} (h : w.shape? r = some x) : r < w.heap.size := by
  by_cases hr : r < w.heap.size
  · exact hr
  · have : w.heap[r]? = none := by simp; omega
    simp [World.shape?, this] at h

set_option maxRecDepth 8000 in
theorem words_in {H : Type} {enc : TypeId × Value → H} {W : World} {a : Option Addr} {n c fuel : Nat} {x : DataW H × List MemPlace}
    (hok : Cell.okWide Tryz.prog W .any 0 45 (.slice a n c)) (h : DataW.trod enc Tryz.prog W 0 (fun _ => true) true fuel 45 [.slice a n c] = some x) : MayW W (.slice a n c) n := by
  intro hn
  rcases open_ints Tryz.underlying45 Tryz.underlying124 cells_u32 h with ⟨hcs, _⟩ | ⟨y, len, cap, zs, hcs, _, hl, hm, hz, _, hcell, hw⟩
  · simp at hcs
    obtain ⟨rfl, rfl, rfl⟩ := hcs
    exact ⟨[], rfl, IsW.nil W⟩
  · simp at hcs
    obtain ⟨rfl, rfl, rfl⟩ := hcs
    have hhas : W.has Tryz.prog .any 0 y 124 c := by
      simp only [Cell.okWide, Tryz.underlying45, Cell.ok] at hok
      exact hok.2.2
    obtain ⟨_, hspot, row, cells, hsh, _⟩ := hhas
    have hlt := shape_lt hsh
    obtain ⟨b, off, spot⟩ := y
    simp only at hspot hlt
    subst hspot
    have hz' : zs.length = c := by simpa using hz
    have hlen : ((zs.take n).map Int.toNat).length = n := by simp; omega
    have hws : ∀ z ∈ zs, 0 ≤ z ∧ z ≤ 4294967295 := by
      intro z hzm
      have := hw z hzm
      have m1 : IntKind.u32.min = 0 := by decide
      have m2 : IntKind.u32.max = 4294967295 := by decide
      simp only [Lit.wf, m1, m2, Bool.and_eq_true, decide_eq_true_eq] at this
      exact this
    refine ⟨(zs.take n).map Int.toNat, hlen, _, c, by rw [hlen], by rw [hlen]; exact hl, by rw [hlen]; exact hn, ?_, ?_, ?_⟩
    · intro z hzm
      obtain ⟨z', hz1, rfl⟩ := List.mem_map.1 hzm
      have := hws z' (List.mem_of_mem_take hz1)
      omega
    · intro _
      refine ⟨b, off, rfl, hlt, fun j hj => ?_⟩
      have hj' : j < n := by simp at hj; omega
      have hj2 : j < zs.length := by omega
      have hc := hcell j hj2
      have e : (zs.getD j 0) = zs[j] := by simp [List.getD, hj2]
      have e2 := hws zs[j] (List.getElem_mem hj2)
      have e3 : ((zs[j].toNat : Nat) : Int) = zs[j] := by omega
      have ha : (⟨b, off, none⟩ : Addr).add j = ⟨b, off + j, none⟩ := by unfold Addr.add; split <;> simp_all
      have hc' : W.cell? ⟨b, off + j, none⟩ = some (.int .u32 (zs.getD j 0)) := by rw [← ha]; exact hc
      rw [hc', e]
      simp [U, e3]
    · intro _ x hx
      cases hx
      exact hlt

/-- What is known of a fraction that came in. -/
def FracI (w : World) (v : Value) (b : Bool) (a1 : Option Addr) (n1 c1 : Nat) (a2 : Option Addr) (n2 c2 : Nat) : Prop :=
  v = .agg #[.bool b, .slice a1 n1 c1, .slice a2 n2 c2] ∧ MayW w (.slice a1 n1 c1) n1 ∧ MayW w (.slice a2 n2 c2) n2

set_option maxRecDepth 8000 in
theorem frac_in {H : Type} {enc : TypeId × Value → H} {W : World} {v : Value} {d : DataW H} {p : List MemPlace}
    (hv : Value.okWide Tryz.prog W .any 0 47 v) (h : DataW.Trod enc Tryz.prog W 0 (fun _ => true) true 47 v d p) :
    ∃ b a1 n1 c1 a2 n2 c2, FracI W v b a1 n1 c1 a2 n2 c2 := by
  have hrow : ∃ cs, v = .agg cs ∧ cs.size = Tryz.prog.cellsOf 47 ∧ Row.okWide Tryz.prog W .any 0 47 cs := by
    simpa only [Value.okWide, Tryz.underlying47] using hv
  obtain ⟨v0, v1, v2, y0, y1, y2, m, rfl, rfl, rfl, h0, h1, h2⟩ := Go.Joins.open_agg3 Tryz.underlying47 (by kernel_rfl) cells_frac hv h
  obtain ⟨cs, hcs, _, ts, hts, _, hcell⟩ := hrow
  simp only [Value.agg.injEq] at hcs
  subst hcs
  rw [cell_types_frac] at hts
  simp only [Option.some.injEq] at hts
  subst hts
  obtain ⟨u1, e1, k1⟩ := hcell 1 v1 rfl
  obtain ⟨u2, e2, k2⟩ := hcell 2 v2 rfl
  simp at e1 e2
  subst e1
  subst e2
  obtain ⟨b, hb, _⟩ := DataW.trod_bool Tryz.underlying4 h0
  obtain ⟨a1, n1, c1, rfl⟩ : ∃ a n c, v1 = .slice a n c := by
    simp only [Cell.okWide, Tryz.underlying45] at k1
    cases v1 <;> simp_all [Cell.ok]
  obtain ⟨a2, n2, c2, rfl⟩ : ∃ a n c, v2 = .slice a n c := by
    simp only [Cell.okWide, Tryz.underlying45] at k2
    cases v2 <;> simp_all [Cell.ok]
  simp at hb
  subst hb
  exact ⟨b, a1, n1, c1, a2, n2, c2, rfl, words_in k1 h1, words_in k2 h2⟩
/-- Where the words are few it is a fraction as it comes. -/
theorem FracI.few {w : World} {v : Value} {b : Bool} {a1 : Option Addr} {n1 c1 : Nat} {a2 : Option Addr} {n2 c2 n : Nat} (h : FracI w v b a1 n1 c1 a2 n2 c2) (hn : n ≤ 1073741824) (h1 : n1 ≤ n) (h2 : n2 ≤ n) : ∃ q, FewF n w v q := by
  obtain ⟨rfl, k1, k2⟩ := h
  obtain ⟨l, e1, hl⟩ := k1 (by omega)
  obtain ⟨m, e2, hm⟩ := k2 (by omega)
  exact ⟨_, b, l, m, ⟨_, _, rfl, hl, hm⟩, rfl, by omega, by omega⟩
end Go.Proofs.YtlaphdlocchagaaGreat

/- few, of the statements. -/
namespace Go.Proofs.YtlaphdlocchagaaGreat
open Go.RowKit

/-- Have k fractions at most n words each? -/
def fewB (n k : Nat) (f g : Nat → Nat) : Bool := decide (∀ i, i < k → f i ≤ n ∧ g i ≤ n)

end Go.Proofs.YtlaphdlocchagaaGreat

/- Arguments that are lists of fractions, as they come in. -/
namespace Go.Proofs.YtlaphdlocchagaaGreat
open Go.ChangeShapes Go.WideShapes Go.ChangeAt Go.RowKit

theorem spot_none {w : World} {b o : Nat} {sp : Option Nat} {v : Value} (h : w.cell? ⟨b, o, sp⟩ = some v) : sp = none := by
  cases sp with
  | none => rfl
  | some x =>
    unfold World.cell? at h
    split at h <;> simp at h
theorem add_flat (b o k : Nat) : (⟨b, o, none⟩ : Addr).add k = ⟨b, o + k, none⟩ := by unfold Addr.add; split <;> simp_all
theorem spot_here {w : World} {a : Addr} {v : Value} (h : w.cell? a = some v) : ∃ b o, a = ⟨b, o, none⟩ ∧ b < w.heap.size := by
  obtain ⟨b, o, sp⟩ := a
  obtain rfl := spot_none h
  refine ⟨b, o, rfl, ?_⟩
  by_cases hb : b < w.heap.size
  · exact hb
  · have : w.heap[b]? = none := by simp; omega
    simp [World.cell?, this] at h

set_option maxRecDepth 8000 in
theorem words_trod {H : Type} {enc : TypeId × Value → H} {W : World} {v : Value} {base fuel : Nat} {x : DataW H × List MemPlace}
    (h : DataW.trod enc Tryz.prog W base (fun _ => true) true fuel 45 [v] = some x) : ∃ a n c, v = .slice a n c ∧ MayW W v n := by
  rcases open_ints Tryz.underlying45 Tryz.underlying124 cells_u32 h with ⟨hcs, _⟩ | ⟨y, len, cap, zs, hcs, _, hl, hm, hz, _, hcell, hw⟩
  · simp at hcs
    subst hcs
    exact ⟨none, 0, 0, rfl, fun _ => ⟨[], rfl, IsW.nil W⟩⟩
  · simp at hcs
    subst hcs
    refine ⟨some y, len, cap, rfl, fun hn => ?_⟩
    by_cases h0 : len = 0
    · subst h0
      exact ⟨[], rfl, some y, cap, rfl, Nat.zero_le _, Nat.zero_le _, ws_nil, Cells.nil _ _, fun h => absurd rfl h⟩
    have hz' : zs.length = cap := by simpa using hz
    have hcell0 : W.cell? y = _ := hcell 0 (by omega)
    obtain ⟨b, off, rfl, hlt⟩ := spot_here hcell0
    have hlen : ((zs.take len).map Int.toNat).length = len := by simp; omega
    have hws : ∀ z ∈ zs, 0 ≤ z ∧ z ≤ 4294967295 := by
      intro z hzm
      have := hw z hzm
      have m1 : IntKind.u32.min = 0 := by decide
      have m2 : IntKind.u32.max = 4294967295 := by decide
      simp only [Lit.wf, m1, m2, Bool.and_eq_true, decide_eq_true_eq] at this
      exact this
    refine ⟨(zs.take len).map Int.toNat, hlen, _, cap, by rw [hlen], by rw [hlen]; exact hl, by rw [hlen]; exact hn, ?_, ?_, ?_⟩
    · intro z hzm
      obtain ⟨z', hz1, rfl⟩ := List.mem_map.1 hzm
      have := hws z' (List.mem_of_mem_take hz1)
      omega
    · intro _
      refine ⟨b, off, rfl, hlt, fun j hj => ?_⟩
      have hj' : j < len := by simp at hj; omega
      have hj2 : j < zs.length := by omega
      have hc := hcell j hj2
      have e : (zs.getD j 0) = zs[j] := by simp [List.getD, hj2]
      have e2 := hws zs[j] (List.getElem_mem hj2)
      have e3 : ((zs[j].toNat : Nat) : Int) = zs[j] := by omega
      have hc' : W.cell? ⟨b, off + j, none⟩ = some (.int .u32 (zs.getD j 0)) := by rw [← add_flat]; exact hc
      rw [hc', e]
      simp [U, e3]
    · intro _ x hx
      cases hx
      exact hlt

set_option maxRecDepth 8000 in
/-- A fraction in memory. -/
theorem frac_trod {H : Type} {enc : TypeId × Value → H} {W : World} {cs : List Value} {base fuel : Nat} {x : DataW H × List MemPlace}
    (h : DataW.trod enc Tryz.prog W base (fun _ => true) true fuel 47 cs = some x) :
    ∃ b a1 n1 c1 a2 n2 c2, cs = [.bool b, .slice a1 n1 c1, .slice a2 n2 c2] ∧ FracI W (.agg #[.bool b, .slice a1 n1 c1, .slice a2 n2 c2]) b a1 n1 c1 a2 n2 c2 := by
  obtain ⟨xs, n, _, rfl, hl, hlen, hf⟩ := DataW.trod_struct Tryz.underlying47 h
  rw [cells_frac] at hl
  obtain ⟨v0, v1, v2, rfl⟩ : ∃ v0 v1 v2, cs = [v0, v1, v2] := by
    match cs, hl with
    | [c0, c1, c2], _ => exact ⟨c0, c1, c2, rfl⟩
  obtain ⟨y0, y1, y2, rfl⟩ : ∃ y0 y1 y2, xs = [y0, y1, y2] := by
    match xs, hlen with
    | [c0, c1, c2], _ => exact ⟨c0, c1, c2, rfl⟩
  have h0 := hf 0 _ rfl
  have h1 := hf 1 _ rfl
  have h2 := hf 2 _ rfl
  have h0' : DataW.trod enc Tryz.prog W base (fun _ => true) true n 4 [v0] = some y0 := h0
  have h1' : DataW.trod enc Tryz.prog W base (fun _ => true) true n 45 [v1] = some y1 := h1
  have h2' : DataW.trod enc Tryz.prog W base (fun _ => true) true n 45 [v2] = some y2 := h2
  obtain ⟨b, hb, _⟩ := DataW.trod_bool Tryz.underlying4 h0'
  obtain ⟨a1, n1, c1, rfl, k1⟩ := words_trod h1'
  obtain ⟨a2, n2, c2, rfl, k2⟩ := words_trod h2'
  simp at hb
  subst hb
  exact ⟨b, a1, n1, c1, a2, n2, c2, rfl, rfl, k1, k2⟩

/-- What is known of a list of fractions that came in. -/
def ListI (w : World) (v : Value) (a : Option Addr) (n c : Nat) : Prop :=
  v = .slice a n c ∧ ∀ i, i < n → ∃ B off b a1 n1 c1 a2 n2 c2, a = some ⟨B, off, none⟩ ∧ w.cell? ⟨B, off + i * 3, none⟩ = some (.bool b) ∧ w.cell? ⟨B, off + i * 3 + 1, none⟩ = some (.slice a1 n1 c1) ∧ w.cell? ⟨B, off + i * 3 + 2, none⟩ = some (.slice a2 n2 c2) ∧
    FracI w (.agg #[.bool b, .slice a1 n1 c1, .slice a2 n2 c2]) b a1 n1 c1 a2 n2 c2
set_option maxRecDepth 8000 in
theorem list_in {H : Type} {enc : TypeId × Value → H} {W : World} {v : Value} {d : DataW H} {p : List MemPlace}
    (h : DataW.Trod enc Tryz.prog W 0 (fun _ => true) true 23 v d p) (hv : ∃ a n c, v = .slice a n c) : ∃ a n c, ListI W v a n c := by
  obtain ⟨a, n, c, rfl⟩ := hv
  refine ⟨a, n, c, rfl, fun i hi => ?_⟩
  obtain ⟨fuel, hf⟩ := h
  rcases DataW.trod_slice Tryz.underlying23 hf with ⟨h0, _⟩ | ⟨a', len, cap, elems, rest, m, _, hcs, _, _, hl, hm, hlen, hel, _, _⟩
  · simp [Value.cells] at h0
    omega
  · simp [Value.cells] at hcs
    obtain ⟨rfl, rfl, rfl⟩ := hcs
    have hsp : ∃ B off, a' = ⟨B, off, none⟩ := by
      have h1 := hel 0 (by omega)
      rw [cells_frac, List.getElem?_eq_getElem (by omega), Option.bind_eq_some_iff] at h1
      obtain ⟨cs, hc1, hc2⟩ := h1
      obtain ⟨b, a1, n1, c1, a2, n2, c2, rfl, -⟩ := frac_trod hc2
      obtain ⟨-, -, hcell⟩ := World.cells?_some hc1
      have e0 := hcell 0 (by omega)
      rw [Nat.zero_mul] at e0
      have e0' : W.cell? a' = _ := e0
      obtain ⟨B, off, h, -⟩ := spot_here e0'
      exact ⟨B, off, h⟩
    obtain ⟨B, off, rfl⟩ := hsp
    have h1 := hel i hi
    rw [cells_frac, List.getElem?_eq_getElem (by omega), Option.bind_eq_some_iff] at h1
    obtain ⟨cs, hc1, hc2⟩ := h1
    obtain ⟨b, a1, n1, c1, a2, n2, c2, rfl, hF⟩ := frac_trod hc2
    obtain ⟨-, -, hcell⟩ := World.cells?_some hc1
    have e0 := hcell 0 (by omega)
    have e1 := hcell 1 (by omega)
    have e2 := hcell 2 (by omega)
    simp only [add_flat, Nat.add_zero] at e0 e1 e2
    exact ⟨B, off, b, a1, n1, c1, a2, n2, c2, rfl, e0, e1, e2, hF⟩
end Go.Proofs.YtlaphdlocchagaaGreat
