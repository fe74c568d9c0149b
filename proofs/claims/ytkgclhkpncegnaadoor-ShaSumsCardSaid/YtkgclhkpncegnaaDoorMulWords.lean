/-
  The walk of the reference's words.
-/
import Derived.Test.YtkgclhkpncegnaaDoorPrimes
namespace Go.Proofs.YtkgclhkpncegnaaDoor
open Go.RowKit
set_option linter.unusedSimpArgs false
set_option linter.unusedVariables false

/-- The cells of a row of words. -/
def us (l : List Nat) : List Value := l.map fun (x : Nat) => .int .u64 (x : Int)
theorem us_length (l : List Nat) : (us l).length = l.length := by simp [us]
theorem us_get (l : List Nat) (i : Nat) (h : i < l.length) : (us l)[i]? = some (.int .u64 (l[i] : Int)) := by simp [us, h]
theorem us_one (l : List Nat) : ∀ u ∈ us l, u.oneCell' = true := by
  intro u hu
  simp only [us, List.mem_map] at hu
  obtain ⟨k, _, rfl⟩ := hu
  rfl
/-- Words at the head of a block. -/
def U64At (w : World) (g : Nat) (l : List Nat) : Prop := ∀ i, (h : i < l.length) → w.cell? ⟨g, i, none⟩ = some (.int .u64 (l[i] : Int))
theorem U64At.later {w w' : World} {g : Nat} {l : List Nat} (h : U64At w g l) (hb : Below w.heap.size w w') : U64At w' g l := fun i hi => cell_later hb (h i hi)
theorem infoU : (Tryd.prog.info? 77).map (fun i => (i.zero, i.size, i.bytes)) = some (some (.int .u64 0), 1, 8) := by kernel_rfl
def divW (x : Nat) : Nat → Nat
  | 0 => x
  | k + 1 => divW x k / 65536
theorem W4_step (x k : Nat) (h : k < 4) : (W4 x).take (k + 1) = (W4 x).take k ++ [divW x k % 65536] := by
  rcases (by omega : k = 0 ∨ k = 1 ∨ k = 2 ∨ k = 3) with rfl | rfl | rfl | rfl <;> rfl
theorem divW_le (x : Nat) : ∀ k, divW x k ≤ x
  | 0 => Nat.le_refl _
  | k + 1 => by have := divW_le x k; rw [divW]; omega

set_option maxRecDepth 100000 in
set_option maxHeartbeats 1000000 in
theorem wordsR_any (x : Nat) (hx : x < 18446744073709551616) (w : World) : Calls Tryd.prog 41 #[.int .u64 (x : Int)] w fun e w' => ∃ g c, e = .returned (.slice (some ⟨g, 0, none⟩) 4 c) ∧ U64At w' g (W4 x) ∧ w.heap.size ≤ g ∧ 4 ≤ c ∧ c ≤ 9223372036854775807 ∧ Below w.heap.size w w' := by
  obtain ⟨i0, hi, hz0, hz1, hz2⟩ := info_parts infoU
  have hown0 := ownsRow_empty w 77
  have hbel0 : Below w.heap.size w (w.alloc (.cells #[] 77)) := (Below.refl _ w).alloc (Nat.le_refl _) _
  have HO0 := Lib.hid hown0
  have HE0 := Lib.hid hbel0
  clear hown0 hbel0
  go_enter Tryd.func41, Tryd.ntmps41
  go_wp2_with fail
  go_loopw [0, 3, 4] (fun s0 s3 s4 wx => ∃ k y : Nat, k ≤ 4 ∧ s4 = .int .i64 (k : Int) ∧ s0 = .int .u64 (y : Int) ∧ Hid (y = divW x k) ∧ wx.ownsRow w.heap.size 77 1 s3 k (us ((W4 x).take k)) ∧ Below w.heap.size w wx) (fun _ _ s4 _ => 4 - (intOf s4).toNat)
  case atStart => exact ⟨0, x, by omega, rfl, rfl, Lib.hid rfl, HO0.out, HE0.out⟩
  case round =>
    clear HO0 HE0
    obtain ⟨k, y, hk, rfl, rfl, HY, howr, hbr⟩ := hrel
    have hsz := hbr.size
    have hyx : y < 18446744073709551616 := by have := divW_le x k; rw [← HY.out] at this; omega
    obtain ⟨a3, c3, rfl⟩ := own_any howr
    by_cases hlt : k < 4
    · obtain ⟨r, hr⟩ : ∃ r, r = y % 65536 := ⟨_, rfl⟩
      obtain ⟨z, hz⟩ : ∃ z, z = y / 65536 := ⟨_, rfl⟩
      have e1 : (y : Int) % 65536 = (r : Int) := by omega
      have e2 : (y : Int) / 65536 = (z : Int) := by omega
      have hst := W4_step x k hlt
      rw [← HY.out, ← hr] at hst
      have HST := Lib.hid hst
      have hz' : z = divW x (k + 1) := by rw [hz, HY.out]; rfl
      have HZ := Lib.hid hz'
      clear hr hz hst hz'
      go_wp2_with (at_builtin; refine wpList_append_own _ rfl (.tmp 10) (.tmp 13) 86 rfl w.heap.size 77 i0 (.int .u64 0) 1 8 Tryd.underlying86 hi hz0 hz1 hz2 rfl (by decide) _ _ _ rfl (howr.alloc _) ⟨wr.heap.size, 0, none⟩ 1 1 [.int .u64 (r : Int)] rfl rfl ?c1 ?c2 ?c3 ?c4 ?c5 ?_)
      case c1 => exact cell_one_new _ _ _
      case c2 => intro u hu; simp at hu; subst hu; rfl
      case c3 => unfold maxLen; omega
      case c4 => omega
      case c5 => simp; omega
      intro v' w3 hown' hgr _
      go_wp2
      go_roundw
      case rel => exact ⟨k + 1, z, by omega, by go_num, rfl, HZ, ownsRow_cast hown' rfl (by rw [HST.out]; unfold us; rw [List.map_append]; rfl), (hbr.alloc hsz _).grown hgr (by simp; omega) (fun k hk => (howr.lt k hk).1)⟩
      case measure => simp [intOf]; omega
    · obtain rfl : k = 4 := by omega
      have HOW := Lib.hid howr
      have HBR := Lib.hid hbr
      obtain ⟨g, rfl⟩ := own_addr howr (by omega)
      clear howr hbr
      go_wp2_with fail
      go_ret
      refine ⟨g, c3, rfl, ?_, ?_, own_cap HOW.out, own_capmax HOW.out, HBR.out⟩
      · intro i hi
        have hi4 : i < 4 := hi
        rw [own_cells HOW.out i hi4]
        exact us_get _ _ _
      · exact (HOW.out.lt g rfl).1
end Go.Proofs.YtkgclhkpncegnaaDoor
