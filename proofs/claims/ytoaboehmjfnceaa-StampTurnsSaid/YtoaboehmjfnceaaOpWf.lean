/-
  What a frame tells of an operation that came in.
-/
import Derived.Test.YtoaboehmjfnceaaStampEq
namespace Go.Proofs.Ytoaboehmjfnceaa
open Go.RowKit

/-- What the machine's numbers give of an operation that came in. -/
structure OpWf (k t r nt nr pt pr : Int) (ss : List (Int × Int)) (c : Nat) : Prop where
  kind : (Lit.int .i64 k).wf = true
  t : (Lit.int .i64 t).wf = true
  r : (Lit.int .i64 r).wf = true
  nt : (Lit.int .i64 nt).wf = true
  nr : (Lit.int .i64 nr).wf = true
  pt : (Lit.int .i64 pt).wf = true
  pr : (Lit.int .i64 pr).wf = true
  over : ∀ p ∈ ss, (Lit.int .i64 p.1).wf = true ∧ (Lit.int .i64 p.2).wf = true
  cap : ss.length ≤ c
  most : c ≤ maxLen
end Go.Proofs.Ytoaboehmjfnceaa
