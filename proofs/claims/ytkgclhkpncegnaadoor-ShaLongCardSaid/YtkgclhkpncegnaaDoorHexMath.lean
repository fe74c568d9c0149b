/-
  Hexadecimal digits: as plain functions.
-/
import Derived.Test.YtkgclhkpncegnaaDoorKit
namespace Go.Proofs.YtkgclhkpncegnaaDoor
open Go

def hexTab : List UInt8 := [48, 49, 50, 51, 52, 53, 54, 55, 56, 57, 97, 98, 99, 100, 101, 102]
def dig (n : Nat) : UInt8 := hexTab.getD n 0
def hexL : List UInt8 → List UInt8
  | [] => []
  | c :: l => dig (c.toNat / 16) :: dig (c.toNat % 16) :: hexL l
theorem hexL_length : ∀ l, (hexL l).length = 2 * l.length
  | [] => rfl
  | c :: l => by simp [hexL, hexL_length l]; omega
theorem hexL_append : ∀ l m, hexL (l ++ m) = hexL l ++ hexL m
  | [], m => rfl
  | c :: l, m => by simp [hexL, hexL_append l m]
theorem hexL_snoc (l : List UInt8) (k : Nat) (h : k < l.length) : hexL (l.take (k + 1)) = hexL (l.take k) ++ [dig (l[k].toNat / 16), dig (l[k].toNat % 16)] := by
  rw [List.take_succ_eq_append_getElem h, hexL_append]
  rfl
theorem tab_get (n : Nat) (h : n < 16) : (⟨#[48, 49, 50, 51, 52, 53, 54, 55, 56, 57, 97, 98, 99, 100, 101, 102]⟩ : ByteArray).get! n = dig n := by
  have : ∀ n : Fin 16, (⟨#[48, 49, 50, 51, 52, 53, 54, 55, 56, 57, 97, 98, 99, 100, 101, 102]⟩ : ByteArray).get! n.1 = dig n.1 := by decide
  exact this ⟨n, h⟩
open Go.RowKit in
theorem run_index_bytes (w : World) (t : TypeId) (n : Nat) (h : Tryd.prog.underlying t = some (.array n 5)) (l : List UInt8) (i : Nat) (hi : i < n) (hl : i < l.length) :
    (Instr.index t (.agg (bvs l).toArray) (.int .i64 (i : Int))).run Tryd.prog w = .ok (.int .u8 (l[i].toNat : Int)) w := by
  obtain ⟨i0, hi0, hz0, hz1, hz2⟩ := info_parts infoByte
  have hp := part_byte w l i hl
  have h2 : (0 : Int) ≤ (i : Int) ∧ (i : Int) < (n : Int) := by omega
  rw [Nat.mul_one] at hp
  simp [Instr.index, asIntOf, run_underlying h, sizeOf, typeInfo, hi0, hz1, h2, hi, hp]
theorem run_index_tab (w : World) (n : Nat) (h : n < 16) : (Instr.index 9 (.string ⟨#[48, 49, 50, 51, 52, 53, 54, 55, 56, 57, 97, 98, 99, 100, 101, 102]⟩) (.int .u8 (n : Int))).run Tryd.prog w = .ok (.int .u8 ((dig n).toNat : Int)) w := by
  rw [run_index_string w 9 _ _ _ Tryd.underlying9]
  have h2 : (0 : Int) ≤ (n : Int) ∧ (n : Int) < ((⟨#[48, 49, 50, 51, 52, 53, 54, 55, 56, 57, 97, 98, 99, 100, 101, 102]⟩ : ByteArray).size : Int) := by
    have : (⟨#[48, 49, 50, 51, 52, 53, 54, 55, 56, 57, 97, 98, 99, 100, 101, 102]⟩ : ByteArray).size = 16 := rfl
    omega
  rw [dif_pos h2]
  have : ∀ n : Fin 16, (⟨#[48, 49, 50, 51, 52, 53, 54, 55, 56, 57, 97, 98, 99, 100, 101, 102]⟩ : ByteArray)[n.1]'(n.2) = dig n.1 := by decide
  have e := this ⟨n, h⟩
  simp only [Int.toNat_natCast]
  rw [e]
theorem tab_at (n : Nat) (h : n < (⟨#[48, 49, 50, 51, 52, 53, 54, 55, 56, 57, 97, 98, 99, 100, 101, 102]⟩ : ByteArray).size) : (⟨#[48, 49, 50, 51, 52, 53, 54, 55, 56, 57, 97, 98, 99, 100, 101, 102]⟩ : ByteArray)[n] = dig n := by
  have : ∀ n : Fin 16, (⟨#[48, 49, 50, 51, 52, 53, 54, 55, 56, 57, 97, 98, 99, 100, 101, 102]⟩ : ByteArray)[n.1]'(n.2) = dig n.1 := by decide
  exact this ⟨n, h⟩
theorem two_set (A Z : List Value) (v0 v1 z0 z1 : Value) (n : Nat) (h : A.length = n) : ((A ++ z0 :: z1 :: Z).toArray.setIfInBounds n v0).setIfInBounds (n + 1) v1 = (A ++ [v0, v1] ++ Z).toArray := by
  subst h
  simp
theorem zeros_two (k : Nat) (h : k < 32) : zeros (64 - 2 * k) = .int .u8 0 :: .int .u8 0 :: zeros (64 - 2 * (k + 1)) := by
  rw [show 64 - 2 * k = (64 - 2 * (k + 1)) + 1 + 1 by omega]
  rfl
theorem cells_two (w : World) (v0 v1 : Value) (T : TypeId) : ∀ j u, [v0, v1][j]? = some u → ((w.alloc (.cells #[v0, v1] T)).drew).cell? ((⟨w.heap.size, 0, none⟩ : Addr).add j) = some u := by
  intro j u hj
  show (w.alloc (.cells #[v0, v1] T)).cell? _ = _
  rw [add_plain, Nat.zero_add, World.cell?_alloc_at _ _ _ _ rfl]
  simpa using hj
theorem two_one (k m : IntKind) (a b : Int) : ∀ u ∈ [Value.int k a, Value.int m b], u.oneCell' = true := by
  intro u hu
  simp at hu
  rcases hu with rfl | rfl <;> rfl
end Go.Proofs.YtkgclhkpncegnaaDoor
