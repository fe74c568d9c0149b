/-
  strings.ContainsAny at the bytes that no name has, and any short text; stamp.Name at any text.
-/
import Derived.Test.YtoaboehmjfnceaaBadRune
import Derived.Lib.DecodeN
import Derived.Lib.IndexAny
namespace Go.Proofs.Ytoaboehmjfnceaa
open Go.RowKit
set_option linter.unusedSimpArgs false
set_option linter.unusedVariables false

set_option maxRecDepth 100000 in
set_option maxHeartbeats 2000000 in
theorem decode_wide (s : ByteArray) (i : Nat) (hi : i < s.size) (h : 128 ≤ (s.get! i).toNat) :
    ∃ c d : Nat, Utf8.decode s i = (c, d) ∧ 128 ≤ c ∧ c ≤ 1114111 ∧ 1 ≤ d ∧ i + d ≤ s.size ∧ ∀ j, j < d → 128 ≤ (s.get! (i + j)).toNat := by
  rw [Lib.decode_at]
  have k0 := (s.get! i).toNat_lt
  have k1 := (s.get! (i + 1)).toNat_lt
  have k2 := (s.get! (i + 2)).toNat_lt
  have k3 := (s.get! (i + 3)).toNat_lt
  obtain ⟨b0, h0⟩ : ∃ b, b = (s.get! i).toNat := ⟨_, rfl⟩
  obtain ⟨b1, h1⟩ : ∃ b, b = (s.get! (i + 1)).toNat := ⟨_, rfl⟩
  obtain ⟨b2, h2⟩ : ∃ b, b = (s.get! (i + 2)).toNat := ⟨_, rfl⟩
  obtain ⟨b3, h3⟩ : ∃ b, b = (s.get! (i + 3)).toNat := ⟨_, rfl⟩
  rw [← h0] at h k0
  rw [← h1] at k1
  rw [← h2] at k2
  rw [← h3] at k3
  have f1 : ∀ j, j < 1 → 128 ≤ (s.get! (i + j)).toNat := fun j hj => by
    obtain rfl : j = 0 := by omega
    rw [Nat.add_zero, ← h0]; exact h
  rw [← h0, ← h1, ← h2, ← h3]
  unfold Lib.decodeN
  rw [if_neg (by omega)]
  split
  · rename_i hc
    split
    · exact ⟨_, _, rfl, by omega, by omega, by omega, by omega, fun j hj => by
        match j, hj with
        | 0, _ => exact f1 0 (by omega)
        | 1, _ => rw [← h1]; omega⟩
    · exact ⟨_, _, rfl, by omega, by omega, by omega, by omega, f1⟩
  · split
    · rename_i hc
      split
      · exact ⟨_, _, rfl, by omega, by omega, by omega, by omega, fun j hj => by
          match j, hj with
          | 0, _ => exact f1 0 (by omega)
          | 1, _ => rw [← h1]; omega
          | 2, _ => rw [← h2]; omega⟩
      · exact ⟨_, _, rfl, by omega, by omega, by omega, by omega, f1⟩
    · split
      · rename_i hc
        split
        · exact ⟨_, _, rfl, by omega, by omega, by omega, by omega, fun j hj => by
            match j, hj with
            | 0, _ => exact f1 0 (by omega)
            | 1, _ => rw [← h1]; omega
            | 2, _ => rw [← h2]; omega
            | 3, _ => rw [← h3]; omega⟩
        · exact ⟨_, _, rfl, by omega, by omega, by omega, by omega, f1⟩
      · exact ⟨_, _, rfl, by omega, by omega, by omega, by omega, f1⟩
/-- The iterator in block g is set to another place of the text. -/
def iterSet (w : World) (g : Nat) (s : ByteArray) (pos : Nat) : World := { w with heap := w.heap.setIfInBounds g (.stringIter s pos) }
theorem iterSet_at {w : World} {g : Nat} {s : ByteArray} {pos : Nat} {o : Obj} (h : w.heap[g]? = some o) : (iterSet w g s pos).heap[g]? = some (.stringIter s pos) := by
  have hg : g < w.heap.size := by
    rw [Array.getElem?_eq_some_iff] at h
    exact h.1
  simp [iterSet, Array.getElem?_setIfInBounds, hg]
theorem iterSet_below {B g : Nat} {w0 w : World} {s : ByteArray} {pos : Nat} (h : Below B w0 w) (hg : B ≤ g) : Below B w0 (iterSet w g s pos) :=
  ⟨h.os, h.tape, h.output, by simpa [iterSet] using h.size, fun k hk => by
    rw [← h.block k hk]
    simp [iterSet, Array.getElem?_setIfInBounds, show g ≠ k by omega]⟩
theorem run_next_any {P : Program} (w : World) (g : Nat) (s : ByteArray) (pos : Nat) (ty : TypeId) (hg : w.heap[g]? = some (.stringIter s pos)) (h : pos < s.size) (c d : Nat) (hd : Utf8.decode s pos = (c, d)) :
    (Instr.next (.pointer (some ⟨g, 0, none⟩)) true ty).run P w = .ok (.tuple #[.bool true, .int .i64 pos, .int .i32 c]) (iterSet w g s (pos + d)) := by
  simp [Instr.next, getObj, setObj, Sem.run_bind, Sem.run, hg, Result.andThen, h, hd, goInt, iterSet]
theorem run_next_stop {P : Program} (w : World) (g : Nat) (s : ByteArray) (pos : Nat) (ty : TypeId) (hg : w.heap[g]? = some (.stringIter s pos)) (h : ¬ pos < s.size) :
    (Instr.next (.pointer (some ⟨g, 0, none⟩)) true ty).run P w = .ok (.tuple #[.bool false]) w := by
  simp [Instr.next, getObj, Sem.run, hg, h]
theorem get_bang (s : ByteArray) (i : Nat) (h : i < s.size) : s.get! i = s[i]'h := by
  simp [ByteArray.get!, getElem!_pos, h]
  rfl
theorem bad_low : ∀ b : UInt8, 128 ≤ b.toNat → badBytes.data.toList.contains b = false := fun b h => by
  have e : badBytes.data.toList = [0, 47, 10] := rfl
  rw [e]
  have n0 : b ≠ 0 := fun h' => by rw [h'] at h; exact absurd h (by decide)
  have n1 : b ≠ 47 := fun h' => by rw [h'] at h; exact absurd h (by decide)
  have n2 : b ≠ 10 := fun h' => by rw [h'] at h; exact absurd h (by decide)
  simp [n0, n1, n2]
theorem noAny_wide {s : ByteArray} {i d : Nat} (h : Lib.NoAny s.data.toList badBytes.data.toList i) (hd : i + d ≤ s.size) (hw : ∀ j, j < d → 128 ≤ (s.get! (i + j)).toNat) : Lib.NoAny s.data.toList badBytes.data.toList (i + d) := fun j b hj hb => by
  rcases Nat.lt_or_ge j i with h1 | h1
  · exact h j b h1 hb
  · have hjs : j < s.size := by omega
    have e := hw (j - i) (by omega)
    rw [show i + (j - i) = j by omega, get_bang s j hjs] at e
    have e2 : s.data.toList[j]? = some (s[j]'hjs) := Lib.data_getElem? s j hjs
    rw [e2] at hb
    injection hb with hb
    rw [← hb]
    exact bad_low _ e

set_option maxRecDepth 100000 in
set_option maxHeartbeats 1000000 in
theorem indexAny_bad (s : ByteArray) (w : World) (hs : s.size ≤ 60) :
    Calls Try.prog 70 #[.string s, .string badBytes] w fun e w' => e = .returned (.int .i64 (Lib.indexAny s.data.toList badBytes.data.toList)) ∧ Below w.heap.size w w' := by
  have hac : ∀ (j : Nat) b, badBytes.data.toList[j]? = some b → b.toNat < 128 := fun j b h => (by decide : ∀ b ∈ badBytes.data.toList, b.toNat < 128) b (List.mem_of_getElem? h)
  by_cases h8 : 8 < s.size
  · refine (Try.strings_IndexAny_long (zero_of_info (n := 256) (by kernel_rfl)).1 s badBytes w (by decide) h8 (by omega) (by decide) hac).mono ?_
    rintro e w' ⟨rfl, rfl⟩
    exact ⟨rfl, ((Below.refl _ w).alloc (Nat.le_refl _) _).alloc (by simp) _⟩
  · have hemp : badBytes.toList.isEmpty = false := by kernel_rfl
    have hsz : badBytes.size = 3 := rfl
    have h8z : decide ((8 : Int) < (s.size : Int)) = false := decide_eq_false (by omega)
    have HAC := Lib.hid hac
    clear hac
    go_enter Try.func70, Try.ntmps70
    go_wp2_with fail
    refine (Try.strings_shouldUseASCIISet _ _).mono ?_
    rintro e w' ⟨rfl, rfl⟩
    rw [h8z]
    go_wp2_with fail
    have hit0 := World.iter_heap w' s 0
    have hbl0 : Below w'.heap.size w' (w'.iter s 0) := (Below.refl _ w').alloc (Nat.le_refl _) _
    obtain ⟨g0, hg0⟩ : ∃ g, g = w'.heap.size := ⟨_, rfl⟩
    rw [← hg0] at hit0 hbl0 ⊢
    have HG0 := Lib.hid hg0
    clear hg0
    go_loopg [9, 10] s.size (fun g _ _ wx => ∃ i : Nat, g = s.size - i ∧ i ≤ s.size ∧ wx.heap[g0]? = some (.stringIter s i) ∧ Hid (Below g0 w' wx) ∧ Hid (Lib.NoAny s.data.toList badBytes.data.toList i))
    case atStart => exact ⟨0, by omega, by omega, hit0, Lib.hid hbl0, Lib.hid (Lib.NoAny.zero _ _)⟩
    case round =>
      obtain ⟨i, hig, his, hit, hbl, hno⟩ := hrel
      clear hit0 hbl0
      by_cases hi : i < s.size
      · obtain ⟨x, hx⟩ : ∃ x : UInt8, s[i]'hi = x := ⟨_, rfl⟩
        have hxl : s.data.toList[i]? = some x := by rw [← hx]; exact Lib.data_getElem? s i hi
        have hbc : g0 < wr.heap.size := by
          rw [Array.getElem?_eq_some_iff] at hit
          exact hit.1
        by_cases hx128 : x.toNat < 128
        · have hdec : Utf8.decode s i = (x.toNat, 1) := by rw [decode_ascii s i hi (by rw [hx]; exact hx128), hx]
          have hnx := fun ty => run_next_any (P := Try.prog) wr g0 s i ty hit hi x.toNat 1 hdec
          have hit1 : (iterSet wr g0 s (i + 1)).heap[g0]? = some (.stringIter s (i + 1)) := iterSet_at hit
          have hbl1 : Below g0 w' (iterSet wr g0 s (i + 1)) := iterSet_below hbl.out (Nat.le_refl _)
          have hcon := Lib.contains_iff_indexByte badBytes.data.toList x
          obtain ⟨q, hq⟩ : ∃ q, q = Lib.indexByte badBytes.data.toList x := ⟨_, rfl⟩
          have hir : ∀ W, Calls Try.prog 79 #[.string badBytes, .int .i32 (x.toNat : Int)] W fun e w' => e = .returned (.int .i64 q) ∧ W = w' := fun W => by
            refine (Try.strings_IndexRune_ascii badBytes (x.toNat : Int) W (by omega) (by omega)).mono ?_
            rintro e w3 ⟨rfl, rfl⟩
            exact ⟨by rw [hq]; simp, rfl⟩
          rw [← hq] at hcon
          obtain ⟨W1, hW1⟩ : ∃ W, W = iterSet wr g0 s (i + 1) := ⟨_, rfl⟩
          rw [← hW1] at hit1 hbl1 hnx
          have HIR := Lib.hid hir
          have HIT := Lib.hid hit1
          have HBL := Lib.hid hbl1
          have HX := Lib.hid hxl
          clear hir hit1 hbl1 hxl hx hdec hq hW1 hbl hbc
          cases hin : badBytes.data.toList.contains x
          · rw [hin] at hcon
            have hlt : ¬ ((0 : Int) ≤ q) := of_decide_eq_false hcon.symm
            have HN := Lib.hid (hno.out.succ HX.out hin)
            clear hcon hno hin
            go_wp2_with fail
            refine (HIR.out _).mono ?_
            rintro e w3 ⟨rfl, rfl⟩
            go_wp2_with fail
            go_roundg (s.size - (i + 1))
            case measure => omega
            case rel => exact ⟨i + 1, rfl, by omega, HIT.out, HBL, HN⟩
          · rw [hin] at hcon
            have hge : (0 : Int) ≤ q := of_decide_eq_true hcon.symm
            have HH := Lib.hid (Lib.indexAny_hit hno.out HX.out hin)
            clear hcon hno hin
            go_wp2_with fail
            refine (HIR.out _).mono ?_
            rintro e w3 ⟨rfl, rfl⟩
            go_wp2_with fail
            go_ret
            exact ⟨by rw [HH.out]; rfl, by rw [← HG0.out]; exact HBL.out⟩
        · obtain ⟨c, d, hdec, hc0, hc1, hd1, hid, hw⟩ := decode_wide s i hi (by rw [get_bang s i hi, hx]; omega)
          have hnx := fun ty => run_next_any (P := Try.prog) wr g0 s i ty hit hi c d hdec
          have hit1 : (iterSet wr g0 s (i + d)).heap[g0]? = some (.stringIter s (i + d)) := iterSet_at hit
          have hbl1 : Below g0 w' (iterSet wr g0 s (i + d)) := iterSet_below hbl.out (Nat.le_refl _)
          have hsz1 : g0 < (iterSet wr g0 s (i + d)).heap.size := by simpa [iterSet] using hbc
          have HN := Lib.hid (noAny_wide hno.out hid hw)
          have hir := fun W => indexRune_bad (c : Int) (by omega) (by omega) W
          obtain ⟨W1, hW1⟩ : ∃ W, W = iterSet wr g0 s (i + d) := ⟨_, rfl⟩
          rw [← hW1] at hit1 hbl1 hnx hsz1
          have HIR := Lib.hid hir
          have HIT := Lib.hid hit1
          have HBL := Lib.hid hbl1
          clear hir hit1 hbl1 hxl hx hdec hW1 hbl hbc hno hw hx128
          go_wp2_with fail
          refine (HIR.out _).mono ?_
          rintro e w3 ⟨rfl, hb3⟩
          have HIT3 := Lib.hid (show w3.heap[g0]? = some (.stringIter s (i + d)) by rw [hb3.block _ hsz1]; exact HIT.out)
          have HBL3 := Lib.hid (HBL.out.trans (hb3.mono (by omega)))
          clear hb3
          go_wp2_with fail
          go_roundg (s.size - (i + d))
          case measure => omega
          case rel => exact ⟨i + d, rfl, hid, HIT3.out, HBL3, HN⟩
      · obtain rfl : i = s.size := by omega
        have hnx := fun ty => run_next_stop (P := Try.prog) wr g0 s s.size ty hit (by omega)
        have hne : Lib.indexAny s.data.toList badBytes.data.toList = -1 := Lib.indexAny_none (by rw [← Lib.size_eq]; exact hno.out)
        have HNE := Lib.hid hne
        clear hne hno
        go_wp2_with fail
        go_ret
        exact ⟨by rw [HNE.out]; rfl, by rw [← HG0.out]; exact hbl.out⟩

/-- Does a text hold a byte that no name has? -/
def badB (s : ByteArray) : Bool := Lib.containsAny s.data.toList badBytes.data.toList
set_option maxRecDepth 100000 in
theorem containsAny_bad (s : ByteArray) (w : World) (hs : s.size ≤ 60) :
    Calls Try.prog 39 #[.string s, .string badBytes] w fun e w' => e = .returned (.bool (badB s)) ∧ Below w.heap.size w w' := by
  obtain ⟨q, hq⟩ : ∃ q, q = Lib.indexAny s.data.toList badBytes.data.toList := ⟨_, rfl⟩
  have hb : badB s = decide (0 ≤ q) := by rw [hq]; rfl
  rw [hb]
  have hi := indexAny_bad s w hs
  rw [← hq] at hi
  have HI := Lib.hid hi
  clear hi hq hb
  go_enter Try.func39, Try.ntmps39
  go_wp2_with fail
  refine HI.out.mono ?_
  rintro e w3 ⟨rfl, hb3⟩
  go_wp2_with fail
  go_ret
  exact ⟨rfl, hb3⟩
theorem name_any (s : ByteArray) (w : World) (hm : s.size ≤ maxLen) :
    Calls Try.prog 16 #[.string s] w fun e w' => e = .returned (.bool (nameV s (badB s))) ∧ Below w.heap.size w w' :=
  name_of s (badB s) w hm fun h W => containsAny_bad s W h
end Go.Proofs.Ytoaboehmjfnceaa
