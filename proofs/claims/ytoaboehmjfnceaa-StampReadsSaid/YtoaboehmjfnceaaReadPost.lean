/-
  What a caller that only reads is told of a made slice of bytes.
-/
import Derived.Test.YtoaboehmjfnceaaText
namespace Go.Proofs.Ytoaboehmjfnceaa
open Go.RowKit

/-- A made slice of bytes, for a caller that only reads it. -/
def ReadPost (w : World) (L : List UInt8) (e : Ending) (w' : World) : Prop :=
  ∃ a c, e = .returned (.slice a L.length c) ∧ BytesAt w' a L ∧ Below w.heap.size w w' ∧ L.length ≤ 9223372036854775807 ∧ L.length ≤ c ∧ c ≤ 9223372036854775807
theorem readPost_of {w : World} {L : List UInt8} {e : Ending} {w' : World} {T : TypeId} (h : ∃ v, e = .returned v ∧ w'.ownsRow w.heap.size T 1 v L.length (bvs L) ∧ Below w.heap.size w w') : ReadPost w L e w' := by
  obtain ⟨v, rfl, hown, hb⟩ := h
  obtain ⟨a, c, rfl, hB, _, h1, h2⟩ := BytesAt.row hown
  exact ⟨a, c, rfl, hB, hb, by omega, h1, h2⟩
theorem num_read (a : Option Addr) (l : List UInt8) (cap : Nat) (n : Int) (w : World) (hb : BytesAt w a l) (hl : l.length ≤ 140737488355300) :
    Calls Try.prog 73 #[.slice a l.length cap, .int .i64 n] w (ReadPost w (l ++ encNum (clampN n))) :=
  (num_any a l cap n w hb hl).mono fun _ _ h => readPost_of h
theorem text_read (a : Option Addr) (l : List UInt8) (cap : Nat) (s : ByteArray) (w : World) (hb : BytesAt w a l) (hl : l.length + s.size ≤ 140737488355300) :
    Calls Try.prog 74 #[.slice a l.length cap, .string s] w (ReadPost w (l ++ encText s)) :=
  (text_any a l cap s w hb hl).mono fun _ _ h => readPost_of h
end Go.Proofs.Ytoaboehmjfnceaa
