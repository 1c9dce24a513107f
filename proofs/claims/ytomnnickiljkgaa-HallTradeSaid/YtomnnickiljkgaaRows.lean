/-
  No cell of these rows narrows 'for every input' (looked for: loops, veiled, ifaces, maps, wideKeys, modest, calm, conditions, laid).
  DERIVED. THE GIVEN ROWS OF THIS SEAT. 6 by the template 'for every input the law returns true; each argument reads behind the call as it read before'; 0 by the template 'total and deterministic' (their statements: YtomnnickiljkgaaTotals.lean).
  GIVEN WITH THE SEED: the statements are not yours to turn. If you find one false, say at which input.
  Laid BY PROGRAM, IN A SANDBOX (cutbox-rows.mjs): the forced cells as the released guide's own fill.sh prints them over the translation 99dd5981257f7c9d… (all of the seat's roots in one cut). By AI agents, Wed Nov 11 2026. No macro, syntax, notation, axiom, sorry.
-/
import Derived.Test.YtomnnickiljkgaaChecked
import GoSem.Claim
import GoSem.ClaimJoined
import GoSem.ClaimMapViews
import Derived.JoinedTies
import Derived.KernelRfl
namespace Go.Proofs.Ytomnnickiljkgaa
/- THE CELL 'sum', in the pinned program and in every row, IS THE sha256 OF THE DUMP (.gsa) THAT YtomnnickiljkgaaProg.lean LOADS. Nothing in Lean hashes anything: it is a label: what it is worth is what the hold of that sum in a sandbox is worth. -/
noncomputable def Try.pinned : Pinned := { name := "ytomnnickiljkgaa", sum := "99dd5981257f7c9db9587f36382b66e366c1efdb486b0730501e2d6d67df0f33", checked := Try.checked }
namespace Rows
def none {H : Type} : Left H := { results := [], args := [] }

/-- 'unbentlaw07.HallAccept': WHATEVER THE INPUT: true; the input reads as it did. -/
def hallAcceptSpec : ChangeSpec := { name := "hallAccept", fn := fun _ => fun
  | [d1, d2, d3] => { results := [.lit (.bool true)], args := [d1, d2, d3] }
  | _ => none }
def hallAcceptRow : OpenClaim := { program := "ytomnnickiljkgaa", sum := "99dd5981257f7c9db9587f36382b66e366c1efdb486b0730501e2d6d67df0f33", func := "unbent/unbentlaw07.HallAccept", spec := "hallAccept", unfollowed := true, recurses := true, apart := false }
def HallAcceptSaid : Prop := hallAcceptRow.holds Try.pinned (OpenSpec.ofChange hallAcceptSpec)

/-- ITS FALSE NEIGHBOUR: 'it returns false'. Refute it at one input. -/
def hallAcceptWrong : ChangeSpec := { name := "hallAccept", fn := fun _ => fun
  | [d1, d2, d3] => { results := [.lit (.bool false)], args := [d1, d2, d3] }
  | _ => none }
def HallAcceptWrongFalsely : Prop := hallAcceptRow.holds Try.pinned (OpenSpec.ofChange hallAcceptWrong)

/-- 'unbentlaw07.HallAcceptBest': WHATEVER THE INPUT: true; the input reads as it did. -/
def hallAcceptBestSpec : ChangeSpec := { name := "hallAcceptBest", fn := fun _ => fun
  | [d1, d2, d3] => { results := [.lit (.bool true)], args := [d1, d2, d3] }
  | _ => none }
def hallAcceptBestRow : OpenClaim := { program := "ytomnnickiljkgaa", sum := "99dd5981257f7c9db9587f36382b66e366c1efdb486b0730501e2d6d67df0f33", func := "unbent/unbentlaw07.HallAcceptBest", spec := "hallAcceptBest", unfollowed := true, recurses := true, apart := false }
def HallAcceptBestSaid : Prop := hallAcceptBestRow.holds Try.pinned (OpenSpec.ofChange hallAcceptBestSpec)

/-- ITS FALSE NEIGHBOUR: 'it returns false'. Refute it at one input. -/
def hallAcceptBestWrong : ChangeSpec := { name := "hallAcceptBest", fn := fun _ => fun
  | [d1, d2, d3] => { results := [.lit (.bool false)], args := [d1, d2, d3] }
  | _ => none }
def HallAcceptBestWrongFalsely : Prop := hallAcceptBestRow.holds Try.pinned (OpenSpec.ofChange hallAcceptBestWrong)

/-- 'unbentlaw07.HallAcceptTrue': WHATEVER THE INPUT: true; the input reads as it did. -/
def hallAcceptTrueSpec : ChangeSpec := { name := "hallAcceptTrue", fn := fun _ => fun
  | [d1, d2, d3] => { results := [.lit (.bool true)], args := [d1, d2, d3] }
  | _ => none }
def hallAcceptTrueRow : OpenClaim := { program := "ytomnnickiljkgaa", sum := "99dd5981257f7c9db9587f36382b66e366c1efdb486b0730501e2d6d67df0f33", func := "unbent/unbentlaw07.HallAcceptTrue", spec := "hallAcceptTrue", unfollowed := true, recurses := true, apart := false }
def HallAcceptTrueSaid : Prop := hallAcceptTrueRow.holds Try.pinned (OpenSpec.ofChange hallAcceptTrueSpec)

/-- ITS FALSE NEIGHBOUR: 'it returns false'. Refute it at one input. -/
def hallAcceptTrueWrong : ChangeSpec := { name := "hallAcceptTrue", fn := fun _ => fun
  | [d1, d2, d3] => { results := [.lit (.bool false)], args := [d1, d2, d3] }
  | _ => none }
def HallAcceptTrueWrongFalsely : Prop := hallAcceptTrueRow.holds Try.pinned (OpenSpec.ofChange hallAcceptTrueWrong)

/-- 'unbentlaw07.HallTrade': WHATEVER THE INPUT: true; the input reads as it did. -/
def hallTradeSpec : ChangeSpec := { name := "hallTrade", fn := fun _ => fun
  | [d1, d2] => { results := [.lit (.bool true)], args := [d1, d2] }
  | _ => none }
def hallTradeRow : OpenClaim := { program := "ytomnnickiljkgaa", sum := "99dd5981257f7c9db9587f36382b66e366c1efdb486b0730501e2d6d67df0f33", func := "unbent/unbentlaw07.HallTrade", spec := "hallTrade", unfollowed := true, recurses := true, apart := false }
def HallTradeSaid : Prop := hallTradeRow.holds Try.pinned (OpenSpec.ofChange hallTradeSpec)

/-- ITS FALSE NEIGHBOUR: 'it returns false'. Refute it at one input. -/
def hallTradeWrong : ChangeSpec := { name := "hallTrade", fn := fun _ => fun
  | [d1, d2] => { results := [.lit (.bool false)], args := [d1, d2] }
  | _ => none }
def HallTradeWrongFalsely : Prop := hallTradeRow.holds Try.pinned (OpenSpec.ofChange hallTradeWrong)

/-- 'unbentlaw07.HallTradeTrue': WHATEVER THE INPUT: true; the input reads as it did. -/
def hallTradeTrueSpec : ChangeSpec := { name := "hallTradeTrue", fn := fun _ => fun
  | [d1, d2, d3] => { results := [.lit (.bool true)], args := [d1, d2, d3] }
  | _ => none }
def hallTradeTrueRow : OpenClaim := { program := "ytomnnickiljkgaa", sum := "99dd5981257f7c9db9587f36382b66e366c1efdb486b0730501e2d6d67df0f33", func := "unbent/unbentlaw07.HallTradeTrue", spec := "hallTradeTrue", unfollowed := true, recurses := true, apart := false }
def HallTradeTrueSaid : Prop := hallTradeTrueRow.holds Try.pinned (OpenSpec.ofChange hallTradeTrueSpec)

/-- ITS FALSE NEIGHBOUR: 'it returns false'. Refute it at one input. -/
def hallTradeTrueWrong : ChangeSpec := { name := "hallTradeTrue", fn := fun _ => fun
  | [d1, d2, d3] => { results := [.lit (.bool false)], args := [d1, d2, d3] }
  | _ => none }
def HallTradeTrueWrongFalsely : Prop := hallTradeTrueRow.holds Try.pinned (OpenSpec.ofChange hallTradeTrueWrong)

/-- 'unbentlaw07.HallSerial': WHATEVER THE INPUT: true; the input reads as it did. -/
def hallSerialSpec : ChangeSpec := { name := "hallSerial", fn := fun _ => fun
  | [d1, d2, d3] => { results := [.lit (.bool true)], args := [d1, d2, d3] }
  | _ => none }
def hallSerialRow : OpenClaim := { program := "ytomnnickiljkgaa", sum := "99dd5981257f7c9db9587f36382b66e366c1efdb486b0730501e2d6d67df0f33", func := "unbent/unbentlaw07.HallSerial", spec := "hallSerial", unfollowed := true, recurses := true, apart := false }
def HallSerialSaid : Prop := hallSerialRow.holds Try.pinned (OpenSpec.ofChange hallSerialSpec)

/-- ITS FALSE NEIGHBOUR: 'it returns false'. Refute it at one input. -/
def hallSerialWrong : ChangeSpec := { name := "hallSerial", fn := fun _ => fun
  | [d1, d2, d3] => { results := [.lit (.bool false)], args := [d1, d2, d3] }
  | _ => none }
def HallSerialWrongFalsely : Prop := hallSerialRow.holds Try.pinned (OpenSpec.ofChange hallSerialWrong)

/- THE SECOND FORM. 'bulk': how many values and letters a reading holds, each counted each time it is reached (what is shared counts as often as it is met; a slice's spare places count too). A statement '..UptoSaid' is the law's where the arguments, and the package variables that the reading takes, are together of bulk at most 1048576: NARROWER than '..Said'. Prove '..Said' where nothing that the law and all that it calls make is longer than what came in: it says more and counts as full. Else prove '..UptoSaid'. A law counts once. -/
mutual
def uptoBulk {H : Type} : DataW H → Nat
  | .lit (.string bytes) => bytes.length + 1
  | .lit _ => 1
  | .nil => 1
  | .ptr d => uptoBulk d + 1
  | .slice elems spare => uptoBulkAll elems + uptoBulkAll spare + 1
  | .agg parts => uptoBulkAll parts + 1
  | .iface _ d => uptoBulk d + 1
  | .map entries => uptoBulkEntries entries + 1
  | .held _ => 1
def uptoBulkAll {H : Type} : List (DataW H) → Nat
  | [] => 0
  | d :: r => uptoBulk d + uptoBulkAll r
def uptoBulkEntries {H : Type} : List (Lit × DataW H) → Nat
  | [] => 0
  | x :: r => uptoBulkEntry x + uptoBulkEntries r
def uptoBulkEntry {H : Type} : Lit × DataW H → Nat
  | (.string bytes, d) => bytes.length + uptoBulk d + 1
  | (_, d) => uptoBulk d + 1
 end
def uptoSmall : (H : Type) → List (DataW H) → Bool := fun _ ds => decide (uptoBulkAll ds ≤ 1048576)
def OpenSpec.upto (s : _root_.Go.ChangeSpec) : _root_.Go.OpenSpec := { _root_.Go.OpenSpec.ofChange s with cond := some uptoSmall }

/-- 'unbentlaw07.HallAccept', WHERE WHAT IT READS IS OF BULK AT MOST 1048576: true; the input reads as it did. -/
def hallAcceptUptoRow : OpenClaim := { program := "ytomnnickiljkgaa", sum := "99dd5981257f7c9db9587f36382b66e366c1efdb486b0730501e2d6d67df0f33", func := "unbent/unbentlaw07.HallAccept", spec := "hallAccept", unfollowed := true, recurses := true, apart := false, narrowed := true }
def HallAcceptUptoSaid : Prop := hallAcceptUptoRow.holds Try.pinned (OpenSpec.upto hallAcceptSpec)

/-- 'unbentlaw07.HallAcceptBest', WHERE WHAT IT READS IS OF BULK AT MOST 1048576: true; the input reads as it did. -/
def hallAcceptBestUptoRow : OpenClaim := { program := "ytomnnickiljkgaa", sum := "99dd5981257f7c9db9587f36382b66e366c1efdb486b0730501e2d6d67df0f33", func := "unbent/unbentlaw07.HallAcceptBest", spec := "hallAcceptBest", unfollowed := true, recurses := true, apart := false, narrowed := true }
def HallAcceptBestUptoSaid : Prop := hallAcceptBestUptoRow.holds Try.pinned (OpenSpec.upto hallAcceptBestSpec)

/-- 'unbentlaw07.HallAcceptTrue', WHERE WHAT IT READS IS OF BULK AT MOST 1048576: true; the input reads as it did. -/
def hallAcceptTrueUptoRow : OpenClaim := { program := "ytomnnickiljkgaa", sum := "99dd5981257f7c9db9587f36382b66e366c1efdb486b0730501e2d6d67df0f33", func := "unbent/unbentlaw07.HallAcceptTrue", spec := "hallAcceptTrue", unfollowed := true, recurses := true, apart := false, narrowed := true }
def HallAcceptTrueUptoSaid : Prop := hallAcceptTrueUptoRow.holds Try.pinned (OpenSpec.upto hallAcceptTrueSpec)

/-- 'unbentlaw07.HallTrade', WHERE WHAT IT READS IS OF BULK AT MOST 1048576: true; the input reads as it did. -/
def hallTradeUptoRow : OpenClaim := { program := "ytomnnickiljkgaa", sum := "99dd5981257f7c9db9587f36382b66e366c1efdb486b0730501e2d6d67df0f33", func := "unbent/unbentlaw07.HallTrade", spec := "hallTrade", unfollowed := true, recurses := true, apart := false, narrowed := true }
def HallTradeUptoSaid : Prop := hallTradeUptoRow.holds Try.pinned (OpenSpec.upto hallTradeSpec)

/-- 'unbentlaw07.HallTradeTrue', WHERE WHAT IT READS IS OF BULK AT MOST 1048576: true; the input reads as it did. -/
def hallTradeTrueUptoRow : OpenClaim := { program := "ytomnnickiljkgaa", sum := "99dd5981257f7c9db9587f36382b66e366c1efdb486b0730501e2d6d67df0f33", func := "unbent/unbentlaw07.HallTradeTrue", spec := "hallTradeTrue", unfollowed := true, recurses := true, apart := false, narrowed := true }
def HallTradeTrueUptoSaid : Prop := hallTradeTrueUptoRow.holds Try.pinned (OpenSpec.upto hallTradeTrueSpec)

/-- 'unbentlaw07.HallSerial', WHERE WHAT IT READS IS OF BULK AT MOST 1048576: true; the input reads as it did. -/
def hallSerialUptoRow : OpenClaim := { program := "ytomnnickiljkgaa", sum := "99dd5981257f7c9db9587f36382b66e366c1efdb486b0730501e2d6d67df0f33", func := "unbent/unbentlaw07.HallSerial", spec := "hallSerial", unfollowed := true, recurses := true, apart := false, narrowed := true }
def HallSerialUptoSaid : Prop := hallSerialUptoRow.holds Try.pinned (OpenSpec.upto hallSerialSpec)

end Rows
end Go.Proofs.Ytomnnickiljkgaa
