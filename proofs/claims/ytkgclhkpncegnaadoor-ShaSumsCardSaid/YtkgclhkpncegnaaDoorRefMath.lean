/-
  The reference's sum, as a function: all blocks in one go.
-/
import Derived.Test.YtkgclhkpncegnaaDoorRefBlocked
import Derived.Test.YtkgclhkpncegnaaDoorRight
namespace Go.Proofs.YtkgclhkpncegnaaDoor
open Go.RowKit
set_option linter.unusedSimpArgs false
set_option linter.unusedVariables false

theorem blocks_left (A B : List UInt8) (s : St) : ∀ n, 64 * n ≤ A.length → blocksS (A ++ B) s n = blocksS A s n := by
  intro n
  induction n with
  | zero => intro _; rfl
  | succ n ih =>
    intro h
    rw [blocksS, blocksS, ih (by omega)]
    congr 1
    rw [List.drop_append_of_le_length (by omega), List.take_append_of_le_length (by simp; omega)]
theorem blocks_right (A B : List UInt8) (s : St) (n : Nat) (hA : A.length = 64 * n) : ∀ m, blocksS (A ++ B) s (n + m) = blocksS B (blocksS A s n) m := by
  intro m
  induction m with
  | zero => exact blocks_left A B s n (by omega)
  | succ m ih =>
    rw [← Nat.add_assoc, blocksS, blocksS, ih]
    congr 2
    rw [show 64 * (n + m) = A.length + 64 * m by omega, List.drop_append]
    simp
theorem last_split (l : List UInt8) (n : Nat) : lastL l n = l.take (64 * (l.length / 64)) ++ lastL (l.drop (64 * (l.length / 64))) n := by
  unfold lastL
  rw [← List.append_assoc, List.take_append_drop]
  have : padLen (l.drop (64 * (l.length / 64))).length = padLen l.length := by unfold padLen; rw [List.length_drop]; omega
  rw [this]
def refN (l : List UInt8) : Nat := l.length / 64 + lastN (l.length % 64)
theorem refAll_len (l : List UInt8) (n : Nat) : (lastL l n).length = 64 * refN l := by
  rw [last_split, List.length_append, last_len l _ _ n rfl rfl, List.length_take, refN]
  omega
theorem refSum_eq (l : List UInt8) : idOf (blocksS (lastL l l.length) startS (refN l)) = sumL l := by
  rw [last_split, refN, blocks_right _ _ _ _ (by rw [List.length_take]; omega), sumL]

/-- Words in a row. -/
def wl (W : Nat → BitVec 32) (n : Nat) : List Value := (List.range n).map fun k => vw (W k)
theorem wl_length (W : Nat → BitVec 32) (n : Nat) : (wl W n).length = n := by simp [wl]
theorem wl_succ (W : Nat → BitVec 32) (n : Nat) : wl W (n + 1) = wl W n ++ [vw (W n)] := by simp [wl, List.range_succ]
theorem wl_get (W : Nat → BitVec 32) (n k : Nat) (h : k < n) : (wl W n)[k]? = some (vw (W k)) := by simp [wl, h]
theorem wl_one (W : Nat → BitVec 32) (n : Nat) : ∀ u ∈ wl W n, u.oneCell' = true := by
  intro u hu
  simp only [wl, List.mem_map] at hu
  obtain ⟨k, _, rfl⟩ := hu
  rfl
/-- Words at the head of a block. -/
def WordsAt (w : World) (b : Nat) (W : Nat → BitVec 32) (n : Nat) : Prop := ∀ i, i < n → w.cell? ⟨b, i, none⟩ = some (.int .u32 ((W i).toNat : Int))
theorem WordsAt.later {w w' : World} {b n : Nat} {W : Nat → BitVec 32} (h : WordsAt w b W n) (hb : Below w.heap.size w w') : WordsAt w' b W n := fun i hi => cell_later hb (h i hi)
theorem WordsAt.row {w : World} {base n c g : Nat} {W : Nat → BitVec 32} (h : w.ownsRow base 45 1 (.slice (some ⟨g, 0, none⟩) n c) n (wl W n)) : WordsAt w g W n := by
  intro i hi
  rcases h.2 with ⟨h1, _⟩ | ⟨g', cap', cur, hv, hbg, hg, hnc, hcm, hcs, htake⟩
  · simp at h1
  · simp only [Value.slice.injEq, Option.some.injEq, Addr.mk.injEq, and_true, true_and] at hv
    obtain ⟨rfl, rfl⟩ := hv
    rw [cell_of_block hg]
    have h3 := wl_get W n i hi
    rw [← htake, List.getElem?_take] at h3
    simp [hi] at h3
    simpa [vw] using h3
theorem ownsRow_below {w w' : World} {base n : Nat} {e : TypeId} {v : Value} {xs : List Value} (h : w.ownsRow base e 1 v n xs) (hb : Below w.heap.size w w') : w'.ownsRow base e 1 v n xs := by
  rcases h with ⟨h0, h1 | ⟨g, cap, cur, hv, hbg, hg, hrest⟩⟩
  · exact ⟨h0, .inl h1⟩
  · exact ⟨h0, .inr ⟨g, cap, cur, hv, hbg, (hb.block g (lt_of_block hg)).trans hg, hrest⟩⟩
theorem wrap_add (x y : BitVec 32) : IntKind.u32.wrap ((x.toNat : Int) + (y.toNat : Int)) = ((x + y).toNat : Int) := by
  simp [IntKind.wrap, IntKind.signed, IntKind.bits]
theorem infoW : (Tryd.prog.info? 45).map (fun i => (i.zero, i.size, i.bytes)) = some (some (.int .u32 0), 1, 4) := by kernel_rfl
theorem vw_one (x : BitVec 32) : ∀ u ∈ [Value.int .u32 (x.toNat : Int)], u.oneCell' = true := by intro u hu; simp at hu; subst hu; rfl
end Go.Proofs.YtkgclhkpncegnaaDoor
