/- A struct's own block never holds the words of a slice: so a store into it leaves every slice of words. -/
import Derived.Test.YtebgkfcglmjokaaRb
namespace Go.Proofs.Ytebgkfcglmjokaa
open Go.RowKit

theorem rc_empty : True := trivial
end Go.Proofs.Ytebgkfcglmjokaa
