/- Arguments that are fractions, as they come in. -/
import Derived.Test.YtebgkfcglmjokaaLa
import Derived.Test.YtebgkfcglmjokaaRows
import Derived.WalkKit
import Derived.ProofKit
import Derived.OpenShut
import Derived.ShutString
import Derived.ChangeOld
import Derived.ChangeArms
import Derived.Carry
import Derived.Lib.SmallJoins
namespace Go.Proofs.Ytebgkfcglmjokaa
open Go.ChangeShapes Go.WideShapes Go.ChangeAt Go.RowKit

theorem own_knob : ownKnob Try.prog.godebug = none := by kernel_rfl
theorem laid_out : laidOutB Try.prog = true := by kernel_rfl
theorem cells_u32 : Try.prog.cellsOf 40 = 1 := by kernel_rfl
theorem cells_frac : Try.prog.cellsOf 24 = 3 := by kernel_rfl
theorem cell_types_frac : Try.prog.cellTypes Try.prog.depth 24 = some [4, 22, 22] := by kernel_rfl

/-- What is known of a slice of words that came in: if it is not too long, it reads as words. -/
def MayW (w : World) (v : Value) (n : Nat) : Prop := n ≤ 1073741824 → ∃ l, l.length = n ∧ IsW w v l

theorem shape_lt {w : World} {r : Nat} {x : TypeId × Nat} (h : w.shape? r = some x) : r < w.heap.size := by
  by_cases hr : r < w.heap.size
  · exact hr
  · have : w.heap[r]? = none := by simp; omega
    simp [World.shape?, this] at h

set_option maxRecDepth 8000 in
theorem words_in {H : Type} {enc : TypeId × Value → H} {W : World} {a : Option Addr} {n c fuel : Nat} {x : DataW H × List MemPlace}
    (hok : Cell.okWide Try.prog W .any 0 22 (.slice a n c)) (h : DataW.trod enc Try.prog W 0 (fun _ => true) true fuel 22 [.slice a n c] = some x) : MayW W (.slice a n c) n := by
  intro hn
  rcases open_ints Try.underlying22 Try.underlying40 cells_u32 h with ⟨hcs, _⟩ | ⟨y, len, cap, zs, hcs, _, hl, hm, hz, _, hcell, hw⟩
  · simp at hcs
    obtain ⟨rfl, rfl, rfl⟩ := hcs
    exact ⟨[], rfl, IsW.nil W⟩
  · simp at hcs
    obtain ⟨rfl, rfl, rfl⟩ := hcs
    have hhas : W.has Try.prog .any 0 y 40 c := by
      simp only [Cell.okWide, Try.underlying22, Cell.ok] at hok
      exact hok.2.2
    obtain ⟨_, hspot, row, cells, hsh, _⟩ := hhas
    have hlt := shape_lt hsh
    obtain ⟨b, off, spot⟩ := y
    simp only at hspot hlt
    subst hspot
    have hz' : zs.length = c := by simpa using hz
    have hlen : ((zs.take n).map Int.toNat).length = n := by simp; omega
    have hws : ∀ z ∈ zs, 0 ≤ z ∧ z ≤ 4294967295 := by
      intro z hzm
      have := hw z hzm
      have m1 : IntKind.u32.min = 0 := by decide
      have m2 : IntKind.u32.max = 4294967295 := by decide
      simp only [Lit.wf, m1, m2, Bool.and_eq_true, decide_eq_true_eq] at this
      exact this
    refine ⟨(zs.take n).map Int.toNat, hlen, _, c, by rw [hlen], by rw [hlen]; exact hl, by rw [hlen]; exact hn, ?_, ?_, ?_⟩
    · intro z hzm
      obtain ⟨z', hz1, rfl⟩ := List.mem_map.1 hzm
      have := hws z' (List.mem_of_mem_take hz1)
      omega
    · intro _
      refine ⟨b, off, rfl, hlt, fun j hj => ?_⟩
      have hj' : j < n := by simp at hj; omega
      have hj2 : j < zs.length := by omega
      have hc := hcell j hj2
      have e : (zs.getD j 0) = zs[j] := by simp [List.getD, hj2]
      have e2 := hws zs[j] (List.getElem_mem hj2)
      have e3 : ((zs[j].toNat : Nat) : Int) = zs[j] := by omega
      have ha : (⟨b, off, none⟩ : Addr).add j = ⟨b, off + j, none⟩ := by unfold Addr.add; split <;> simp_all
      have hc' : W.cell? ⟨b, off + j, none⟩ = some (.int .u32 (zs.getD j 0)) := by rw [← ha]; exact hc
      rw [hc', e]
      simp [U, e3]
    · intro _ x hx
      cases hx
      exact hlt

/-- What is known of a fraction that came in. -/
def FracI (w : World) (v : Value) (b : Bool) (a1 : Option Addr) (n1 c1 : Nat) (a2 : Option Addr) (n2 c2 : Nat) : Prop :=
  v = .agg #[.bool b, .slice a1 n1 c1, .slice a2 n2 c2] ∧ MayW w (.slice a1 n1 c1) n1 ∧ MayW w (.slice a2 n2 c2) n2

set_option maxRecDepth 8000 in
theorem frac_in {H : Type} {enc : TypeId × Value → H} {W : World} {v : Value} {d : DataW H} {p : List MemPlace}
    (hv : Value.okWide Try.prog W .any 0 24 v) (h : DataW.Trod enc Try.prog W 0 (fun _ => true) true 24 v d p) :
    ∃ b a1 n1 c1 a2 n2 c2, FracI W v b a1 n1 c1 a2 n2 c2 := by
  have hrow : ∃ cs, v = .agg cs ∧ cs.size = Try.prog.cellsOf 24 ∧ Row.okWide Try.prog W .any 0 24 cs := by
    simpa only [Value.okWide, Try.underlying24] using hv
  obtain ⟨v0, v1, v2, y0, y1, y2, m, rfl, rfl, rfl, h0, h1, h2⟩ := Go.Joins.open_agg3 Try.underlying24 (by kernel_rfl) cells_frac hv h
  obtain ⟨cs, hcs, _, ts, hts, _, hcell⟩ := hrow
  simp only [Value.agg.injEq] at hcs
  subst hcs
  rw [cell_types_frac] at hts
  simp only [Option.some.injEq] at hts
  subst hts
  obtain ⟨u1, e1, k1⟩ := hcell 1 v1 rfl
  obtain ⟨u2, e2, k2⟩ := hcell 2 v2 rfl
  simp at e1 e2
  subst e1
  subst e2
  obtain ⟨b, hb, _⟩ := DataW.trod_bool Try.underlying4 h0
  obtain ⟨a1, n1, c1, rfl⟩ : ∃ a n c, v1 = .slice a n c := by
    simp only [Cell.okWide, Try.underlying22] at k1
    cases v1 <;> simp_all [Cell.ok]
  obtain ⟨a2, n2, c2, rfl⟩ : ∃ a n c, v2 = .slice a n c := by
    simp only [Cell.okWide, Try.underlying22] at k2
    cases v2 <;> simp_all [Cell.ok]
  simp at hb
  subst hb
  exact ⟨b, a1, n1, c1, a2, n2, c2, rfl, words_in k1 h1, words_in k2 h2⟩
/-- Where the words are few it is a fraction as it comes. -/
theorem FracI.few {w : World} {v : Value} {b : Bool} {a1 : Option Addr} {n1 c1 : Nat} {a2 : Option Addr} {n2 c2 n : Nat} (h : FracI w v b a1 n1 c1 a2 n2 c2) (hn : n ≤ 1073741824) (h1 : n1 ≤ n) (h2 : n2 ≤ n) : ∃ q, FewF n w v q := by
  obtain ⟨rfl, k1, k2⟩ := h
  obtain ⟨l, e1, hl⟩ := k1 (by omega)
  obtain ⟨m, e2, hm⟩ := k2 (by omega)
  exact ⟨_, b, l, m, ⟨_, _, rfl, hl, hm⟩, rfl, by omega, by omega⟩
end Go.Proofs.Ytebgkfcglmjokaa
