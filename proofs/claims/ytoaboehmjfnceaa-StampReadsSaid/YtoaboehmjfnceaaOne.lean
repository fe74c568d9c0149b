/-
  The document's example of an operation: it is right; slices.Equal at two nil slices.
-/
import Derived.Test.YtoaboehmjfnceaaName
import Derived.Test.YtoaboehmjfnceaaGood
import Derived.Test.YtoaboehmjfnceaaPutMove
import Derived.Test.YtoaboehmjfnceaaGetMove
import Derived.Test.YtoaboehmjfnceaaSame2
namespace Go.Proofs.Ytoaboehmjfnceaa
open Go.RowKit

set_option maxRecDepth 100000 in
theorem equal_nil (w : World) : Calls Try.prog 42 #[.slice none 0 0, .slice none 0 0] w fun e w' => e = .returned (.bool true) ∧ Below w.heap.size w w' := by
  go_enter Try.func42, Try.ntmps42
  go_wp2_with fail
  go_loop [4, 5, 13] (fun _ _ s13 => s13 = .int .i64 0) (fun _ _ _ => 0)
  case atStart => rfl
  case round =>
    obtain rfl := hrel
    go_wp2_with fail
    go_ret
    exact ⟨rfl, Below.refl _ _⟩

/-- The name of the example. -/
def nameA : ByteArray := ⟨#[97]⟩
theorem name_a (w : World) : Calls Try.prog 16 #[.string nameA] w fun e w' => e = .returned (.bool true) ∧ Below w.heap.size w w' := by
  have h := name_of nameA false w (by decide) (fun _ W => by
    have h := Try.strings_ContainsAny_laid nameA badBytes W (by decide) (by decide) (fun j b h => (by decide : ∀ b ∈ nameA.data.toList, b.toNat < 128) b (List.mem_of_getElem? h)) (fun j b h => (by decide : ∀ b ∈ badBytes.data.toList, b.toNat < 128) b (List.mem_of_getElem? h))
    rw [show Lib.containsAny nameA.data.toList badBytes.data.toList = false by decide] at h
    exact h)
  rw [show nameV nameA false = true by kernel_rfl] at h
  exact h

/-- The example's cells. -/
def oneCells : Array Value := opCells 1 5 1 5 1 0 0 nameA id0 (.slice none 0 0)
theorem good_one (w : World) : Calls Try.prog 18 #[.agg oneCells] w fun e w' => e = .returned (.bool true) ∧ Below w.heap.size w w' := by
  have hm : ∀ W, Calls Try.prog 40 #[.agg oneCells] W fun e w' => e = .returned (.bool true) ∧ Below W.heap.size W w' := fun W => by
    have h := goodMove_any 1 5 1 5 1 0 0 nameA id0 none 0 0 true W rfl name_a
    rw [show moveB 5 1 5 1 0 0 true id0 0 = true by decide] at h
    exact h
  have h := good_of 1 5 1 5 1 0 0 nameA id0 (.slice none 0 0) true true w rfl (fun _ => hm) (fun h => absurd h (by decide))
  rw [show goodV 1 5 1 5 1 true true = true by decide] at h
  exact h
theorem same_one (w : World) : Calls Try.prog 20 #[.agg oneCells, .agg oneCells] w fun e w' => e = .returned (.bool true) ∧ Below w.heap.size w w' := by
  have h := same_of 1 5 1 5 1 0 0 nameA id0 (.slice none 0 0) 1 5 1 5 1 0 0 nameA id0 (.slice none 0 0) true w rfl rfl (fun W _ => equal_nil W)
  rw [show sameV 1 5 1 5 1 0 0 nameA id0 1 5 1 5 1 0 0 nameA id0 true = true by kernel_rfl] at h
  exact h

/-- The bytes of the example. -/
def oneBytes : List UInt8 := [1, 5, 1, 5, 1, 0, 0, 1, 97]
theorem put_one (w : World) : Calls Try.prog 22 #[.slice none 0 0, .agg oneCells] w fun e w' => ∃ v, e = .returned v ∧ w'.ownsRow w.heap.size 5 1 v oneBytes.length (bvs oneBytes) ∧ Below w.heap.size w w' := by
  have h := put_move true none [] 0 5 1 5 1 0 0 nameA id0 (.slice none 0 0) w (fun i h => absurd h (by simp)) (fun _ => rfl) rfl (by decide) good_one
  have e : (if (true : Bool) = true then ([] : List UInt8) ++ encMove 5 1 5 1 0 0 nameA else []) = oneBytes := by kernel_rfl
  rw [e] at h
  exact h
theorem get_one (R Q : Nat) (w : World) (h : Reads w R Q oneBytes false) : Calls Try.prog 27 #[.pointer (some ⟨R, 0, none⟩)] w (ReadOn R Q (.agg oneCells) [] false w) :=
  get_move R Q oneBytes [5, 1, 5, 1, 0, 0, 1, 97] [5, 1, 0, 0, 1, 97] [0, 0, 1, 97] [1, 97] [] 5 1 5 1 0 0 [97] w h (by decide) (by decide) (by decide) (by decide) (by decide) good_one

/-- The example, as the model writes it. -/
def oneLit : Array Value := #[.int .i64 1, .int .i64 5, .int .i64 1, .int .i64 5, .int .i64 1, .int .i64 0, .int .i64 0, .string ⟨#[97]⟩, .int .u8 0, .int .u8 0, .int .u8 0, .int .u8 0, .int .u8 0, .int .u8 0, .int .u8 0, .int .u8 0, .int .u8 0, .int .u8 0, .int .u8 0, .int .u8 0, .int .u8 0, .int .u8 0, .int .u8 0, .int .u8 0, .int .u8 0, .int .u8 0, .int .u8 0, .int .u8 0, .int .u8 0, .int .u8 0, .int .u8 0, .int .u8 0, .int .u8 0, .int .u8 0, .int .u8 0, .int .u8 0, .int .u8 0, .int .u8 0, .int .u8 0, .int .u8 0, .slice none 0 0]
theorem oneLit_eq : oneLit = oneCells := by kernel_rfl
end Go.Proofs.Ytoaboehmjfnceaa
