/-
  Digits parsed: as plain functions.
-/
import Derived.Test.YtkgclhkpncegnaaDoorDigit
namespace Go.Proofs.YtkgclhkpncegnaaDoor
open Go Go.RowKit

def nibV (l : List UInt8) (i : Nat) : Nat := (unh (l.getD i 0).toNat).getD 0
theorem nibV_lt (l : List UInt8) (i : Nat) : nibV l i < 16 := by
  unfold nibV
  cases h : unh (l.getD i 0).toNat with
  | none => simp
  | some v => exact unh_lt h
def cellN (l : List UInt8) (k j : Nat) : Nat := if 2 * j + 1 < k then 16 * nibV l (2 * j) + nibV l (2 * j + 1) else if 2 * j < k then nibV l (2 * j) else 0
theorem cellN_lt (l : List UInt8) (k j : Nat) : cellN l k j < 256 := by
  have h1 := nibV_lt l (2 * j)
  have h2 := nibV_lt l (2 * j + 1)
  unfold cellN
  split
  · omega
  · split <;> omega
/-- The ID behind the first k digits. -/
def parsed (l : List UInt8) (k : Nat) : List UInt8 := (List.range 32).map fun j => UInt8.ofNat (cellN l k j)
theorem parsed_length (l : List UInt8) (k : Nat) : (parsed l k).length = 32 := by simp [parsed]
theorem parsed_get (l : List UInt8) (k j : Nat) (h : j < 32) : (parsed l k)[j]'(by rw [parsed_length]; exact h) = UInt8.ofNat (cellN l k j) := by simp [parsed]
theorem parsed_zero (l : List UInt8) : parsed l 0 = List.replicate 32 0 := by
  apply List.ext_getElem
  · simp [parsed]
  · intro i h1 h2
    rw [parsed_get _ _ _ (by rw [parsed_length] at h1; exact h1), List.getElem_replicate]
    rfl
theorem cellN_step (l : List UInt8) (k : Nat) : cellN l (k + 1) (k / 2) = 16 * cellN l k (k / 2) + nibV l k := by
  unfold cellN
  rcases Nat.mod_two_eq_zero_or_one k with h | h
  · have e : 2 * (k / 2) = k := by omega
    rw [e, if_neg (by omega), if_pos (by omega), if_neg (by omega), if_neg (by omega)]
    omega
  · have e : 2 * (k / 2) + 1 = k := by omega
    rw [e, if_pos (by omega), if_neg (by omega), if_pos (by omega)]
theorem cellN_old (l : List UInt8) (k : Nat) : cellN l k (k / 2) < 16 := by
  have h1 := nibV_lt l (2 * (k / 2))
  unfold cellN
  rw [if_neg (by omega)]
  split <;> omega
theorem parsed_step (l : List UInt8) (k : Nat) : (parsed l k).set (k / 2) (UInt8.ofNat (16 * cellN l k (k / 2) + nibV l k)) = parsed l (k + 1) := by
  apply List.ext_getElem
  · simp [parsed_length]
  · intro j h1 h2
    have hj : j < 32 := by rw [parsed_length] at h2; exact h2
    rw [List.getElem_set, parsed_get l (k + 1) j hj]
    split
    · rename_i e
      subst e
      rw [cellN_step]
    · rename_i e
      rw [parsed_get _ _ _ hj]
      congr 1
      unfold cellN
      repeat' split
      all_goals first | rfl | omega
def allHex (l : List UInt8) : Bool := l.all fun c => (unh c.toNat).isSome
/-- What parsing a text comes to. -/
def parseL (l : List UInt8) : List UInt8 := if l.length = 64 ∧ allHex l = true then parsed l 64 else List.replicate 32 0
def parseB (l : List UInt8) : Bool := decide (l.length = 64) && allHex l
theorem shl_or (x v : Nat) (hx : x < 16) (hv : v < 16) : bits .or .u8 ((x : Int) * 16) (v : Int) = ((16 * x + v : Nat) : Int) := by
  have : ∀ x v : Fin 16, bits .or .u8 ((x.1 : Int) * 16) (v.1 : Int) = ((16 * x.1 + v.1 : Nat) : Int) := by decide
  exact this ⟨x, hx⟩ ⟨v, hv⟩
theorem results_row_tmp {P : Program} {fn : Func} {p u : Tmp} {ty : TypeId} (h : fn.results = #[.cell p ty, .tmp u]) (tmps : Array Value) (w : World) (g : Nat) (t : TypeId) (cs : Array Value) (fr : Nat × Nat) (d : TypeDesc) (b : Value)
    (hp : tmps.getD p undef = .pointer (some ⟨g, 0, none⟩)) (hg : w.heap[g]? = some (.cells cs t fr))
    (hu : P.underlying ty = some d) (hd : (match d with | .struct _ | .array _ _ => true | _ => false) = true) (hi : (P.info? ty).map (·.size) = some cs.size) (hb : tmps.getD u undef = b) :
    (results fn tmps).run P w = .ok (.tuple #[.agg cs, b]) w := by
  rw [results_cell_tmp h, hp, hb]
  simp [asAddr, run_loadVar_row w g t ty cs fr d hg hu hd hi]
theorem grownBy_iterAt (w : World) (I : Nat) (s : ByteArray) (p : Nat) : w.grownBy (w.iterAt I s p) (some I) :=
  ⟨rfl, rfl, rfl, by simp [World.iterAt], fun k _ hk => Lib.iterAt_other w I k s p (fun e => hk (by rw [e]))⟩
theorem unh_high {n : Nat} (h : 128 ≤ n) : unh n = none := by unfold unh; rw [if_neg (by omega), if_neg (by omega)]
end Go.Proofs.YtkgclhkpncegnaaDoor
