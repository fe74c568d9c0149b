/-
  EncBack from the call's own values.
-/
import Derived.Test.YtcgfkgkajifpbabEncBack
namespace Go.Proofs.Ytcgfkgkajifpbab
open Go.RowKit
theorem encBack_walk (w : World) (a0 : Option Addr) (len0 cap0 : Nat) (z0 : List Int) (w0 : IsRow .i64 w a0 len0 cap0 z0) (a1 : Option Addr) (len1 cap1 : Nat) (z1 : List ByteArray) (w1 : IsStrs w a1 len1 cap1 z1) (l : List UInt8) (hl : l.length = 32) :
    Calls Try.prog 5 #[.slice a0 len0 cap0, .slice a1 len1 cap1, .agg (bvs l).toArray] w fun e w' => e = .returned (.bool true) ∧ Below w.heap.size w w' := by
  obtain ⟨n, rfl, hl0, hm0, hn⟩ := w0.ints
  obtain ⟨s, rfl, hl1, hm1, hs⟩ := w1.strs
  exact encBack_any a0 n cap0 a1 s cap1 l w hn (by omega) hs (by omega) hl
end Go.Proofs.Ytcgfkgkajifpbab
