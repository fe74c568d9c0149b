/-
  The walk of DeltaApplies.
-/
import Derived.Test.YtpdoiodgdhlecaaDRef
import Derived.Test.YtpdoiodgdhlecaaSame
import Derived.Deep.DeepCutAuto
namespace Go.Proofs.Ytpdoiodgdhlecaa
open Go.RowKit
set_option linter.unusedSimpArgs false
set_option linter.unusedVariables false

theorem isRow_none {k : IntKind} {w : World} {a : Option Addr} {len cap : Nat} {zs : List Int} (h : IsRow k w a len cap zs) : a = none → cap = 0 := by
  intro h0
  rcases h with ⟨_, _, h1, _⟩ | ⟨x, h1, _⟩
  · exact h1
  · rw [h0] at h1; cases h1
theorem apply_abc : applyD [97, 98, 99] [4, 4, 120, 121, 5, 1] = (0, [120, 121, 98, 99]) := by decide +kernel

set_option maxRecDepth 100000 in
set_option maxHeartbeats 1000000 in
theorem applying_any (w : World) :
    Calls Try.prog 9 #[] w fun e w' => e = .returned (.bool true) ∧ Below w.heap.size w w' := by
  have kc := fun (w : World) (C : Array Value) (n c : Nat) => Lib.run_convert_bytes_const (P := Try.prog) w 22 5 C n c Try.underlying22 Try.underlying5
  go_enter Try.func9, Try.ntmps9
  go_wp2_with fail
  clear kc
  obtain ⟨wA, hwA⟩ : ∃ wA, wA = w.alloc (.cells #[.int .u8 97, .int .u8 98, .int .u8 99] 5 (3, 4)) := ⟨_, rfl⟩
  have hsA : wA.heap.size = w.heap.size + 1 := by rw [hwA]; simp
  have hbA : Below w.heap.size w wA := by rw [hwA]; exact (Below.refl _ w).alloc (Nat.le_refl _) _
  have hb3 : BytesAt wA (some ⟨w.heap.size, 0, none⟩) [97, 98, 99] := by rw [hwA]; exact BytesAt.alloc_mark w _ _ _ _ rfl
  rw [← hwA]
  obtain ⟨wB, hwB⟩ : ∃ wB, wB = wA.alloc (.cells #[.int .u8 4, .int .u8 4, .int .u8 120, .int .u8 121, .int .u8 5, .int .u8 1] 5) := ⟨_, rfl⟩
  have hbB : Below wA.heap.size wA wB := by rw [hwB]; exact (Below.refl _ wA).alloc (Nat.le_refl _) _
  have hb6 : BytesAt wB (some ⟨wA.heap.size, 0, none⟩) [4, 4, 120, 121, 5, 1] := by rw [hwB]; exact BytesAt.alloc_new wA _ _ _ rfl
  rw [hsA] at hb6
  rw [← hwB]
  have h1 : Below w.heap.size w wB := hbA.trans (hbB.mono hbA.size)
  have hap := apply_any (some ⟨w.heap.size, 0, none⟩) [97, 98, 99] 3 (some ⟨w.heap.size + 1, 0, none⟩) [4, 4, 120, 121, 5, 1] 6 wB (hb3.later hbB) (fun h => by simp at h) (by simp) (by omega) hb6 (fun h => by simp at h) (by simp) (by omega)
  have H1 := Lib.hid h1
  clear hwA hwB hbA hb3 hbB hb6 hsA h1
  refine hap.mono ?_
  clear hap
  unfold DApplied
  rw [apply_abc]
  rintro e w1 ⟨hw1, -, a2, c2, rfl, hb2, -, -⟩
  have hcv : (convert 22 9 (.slice a2 4 c2)).run Try.prog w1 = .ok (.string ⟨#[120, 121, 98, 99]⟩) w1 := conv_bytes hb2 c2
  clear hb2
  go_wp2_with fail
  go_ret
  exact ⟨rfl, H1.out.trans (hw1.mono H1.out.size)⟩

set_option maxRecDepth 100000 in
set_option maxHeartbeats 1000000 in
theorem deltaApplies_any (a0 : Option Addr) (base : List UInt8) (c0 : Nat) (a1 : Option Addr) (D : List UInt8) (c1 : Nat) (w : World) (hb0 : BytesAt w a0 base) (hn0 : a0 = none → c0 = 0) (hl0 : base.length ≤ c0) (hm0 : c0 ≤ 9223372036854775807) (hb1 : BytesAt w a1 D) (hn1 : a1 = none → c1 = 0) (hl1 : D.length ≤ c1) (hm1 : c1 ≤ 9223372036854775807) :
    Calls Try.prog 3 #[.slice a0 base.length c0, .slice a1 D.length c1] w fun e w' => e = .returned (.bool true) ∧ Below w.heap.size w w' := by
  have HB0 := Lib.hid hb0
  have HB1 := Lib.hid hb1
  have HN0 := Lib.hid hn0
  have HN1 := Lib.hid hn1
  clear hb0 hb1 hn0 hn1
  go_enter Try.func3, Try.ntmps3
  go_wp2_with fail
  refine (applying_any _).mono ?_
  rintro e w1 ⟨rfl, hw1⟩
  by_cases h20 : 20000 < D.length
  · have d1 : (20000 : Int) < (D.length : Int) := by omega
    go_wp2_with fail
    go_ret
    exact ⟨rfl, hw1⟩
  · have d1 : ¬ (20000 : Int) < (D.length : Int) := by omega
    have HW1 := Lib.hid hw1
    clear hw1
    go_wp2_with fail
    refine (apply_any a0 base c0 a1 D c1 w1 (HB0.out.later HW1.out) HN0.out hl0 hm0 (HB1.out.later HW1.out) HN1.out hl1 hm1).mono ?_
    unfold DApplied
    obtain ⟨er, her⟩ : ∃ er, er = (applyD base D).1 := ⟨_, rfl⟩
    obtain ⟨L, hL⟩ : ∃ L, L = (applyD base D).2 := ⟨_, rfl⟩
    rw [← her, ← hL]
    rintro e w2 ⟨hw2, hmost, a2, c2, rfl, hb2, hl2, hm2⟩
    have HW2 := Lib.hid (HW1.out.trans (hw2.mono HW1.out.size))
    have HB2 := Lib.hid hb2
    have href := refapply_any a0 base c0 a1 D c1 w2 (HB0.out.later HW2.out) HN0.out hl0 hm0 (HB1.out.later HW2.out) hl1 hm1
    unfold DApplied at href
    rw [← her, ← hL] at href
    have HREF := Lib.hid href
    clear hb2 hw2 href her hL
    go_wp2_with fail
    refine HREF.out.mono ?_
    rintro e w3 ⟨hw3, -, a3, c3, rfl, hb3, hl3, hm3⟩
    have hsame := same_any a2 a3 L L c2 c3 w3 (HB2.out.later hw3) hb3 (by omega) (by omega)
    rw [show decide (L = L) = true by simp] at hsame
    have HW3 := Lib.hid (HW2.out.trans (hw3.mono HW2.out.size))
    have HSM := Lib.hid hsame
    clear HREF hsame hb3 hw3
    go_wp2_with fail
    refine HSM.out.mono ?_
    rintro e w4 ⟨rfl, hw4⟩
    go_wp2_with fail
    go_ret
    exact ⟨rfl, HW3.out.trans (hw4.mono HW3.out.size)⟩
theorem deltaApplies_walk (w : World) (a0 : Option Addr) (len0 cap0 : Nat) (z0 : List Int) (w0 : IsRow .u8 w a0 len0 cap0 z0) (a1 : Option Addr) (len1 cap1 : Nat) (z1 : List Int) (w1 : IsRow .u8 w a1 len1 cap1 z1) :
    Calls Try.prog 3 #[.slice a0 len0 cap0, .slice a1 len1 cap1] w fun e w' => e = .returned (.bool true) ∧ Below w.heap.size w w' := by
  have n0 := isRow_none w0
  have n1 := isRow_none w1
  obtain ⟨l0, rfl, hl0, hm0, hb0⟩ := w0.bytes
  obtain ⟨l1, rfl, hl1, hm1, hb1⟩ := w1.bytes
  exact deltaApplies_any a0 l0 cap0 a1 l1 cap1 w hb0 n0 hl0 (by omega) hb1 n1 hl1 (by omega)
end Go.Proofs.Ytpdoiodgdhlecaa
