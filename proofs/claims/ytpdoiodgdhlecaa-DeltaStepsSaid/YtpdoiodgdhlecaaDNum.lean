/-
  The walk of delta's firstNum.
-/
import Derived.Test.YtpdoiodgdhlecaaSliceD
import Derived.Test.YtpdoiodgdhlecaaReadId
import Derived.Test.YtpdoiodgdhlecaaDeltaMath
import Derived.Deep.DeepCutAuto
import Derived.Deep.QuietTactic
import Derived.BigQuiet
import Derived.OwnWalk
namespace Go.Proofs.Ytpdoiodgdhlecaa
open Go.RowKit
set_option linter.unusedSimpArgs false
set_option linter.unusedVariables false

/-- A number of a delta: none, or it and what is behind it. -/
def DNum (a : Option Addr) (D : List UInt8) (cap : Nat) (most : Int) (w : World) (e : Ending) (w' : World) : Prop :=
  Below w.heap.size w w' ∧ ((rnum D most = none ∧ ∃ a' n' c', e = .returned (.tuple #[.int .i64 0, .slice a' n' c', .bool false])) ∨
    ∃ N l' a' c', rnum D most = some (N, l') ∧ e = .returned (.tuple #[.int .i64 ((N : Nat) : Int), .slice a' l'.length c', .bool true]) ∧ (∀ W, BytesAt W a D → BytesAt W a' l') ∧ (a' = none → c' = 0) ∧ l'.length ≤ c' ∧ c' ≤ cap)

set_option maxRecDepth 100000 in
set_option maxHeartbeats 2000000 in
theorem dnum_any (a : Option Addr) (D : List UInt8) (cap : Nat) (most : Int) (w : World) (hb : BytesAt w a D) (hn : a = none → cap = 0) (hl : D.length ≤ cap) (hc : cap ≤ 9223372036854775807) :
    Calls Try.prog 17 #[.slice a D.length cap, .int .i64 most] w (DNum a D cap most w) := by
  obtain ⟨H, hH⟩ : ∃ H, H = D.take 9 := ⟨_, rfl⟩
  have hHl : H.length = min 9 D.length := by rw [hH, List.length_take]
  have hb9 : BytesAt w a H := by rw [hH]; exact hb.take 9
  have HH := Lib.hid hH
  have HB9 := Lib.hid hb9
  have HB := Lib.hid hb
  have HHL := Lib.hid hHl
  have HNN := Lib.hid hn
  clear hH hb9 hHl hb hn
  unfold DNum
  go_enter Try.func17, Try.ntmps17
  go_upto_region 1 with (fail)
  go_cut [7] (fun s7 wx => s7 = .slice a H.length cap ∧ w = wx)
  case first =>
    go_wp2_with fail
    all_goals go_meet
    all_goals have := HHL.out
    · exact ⟨by rw [show H.length = 9 by omega], rfl⟩
    · exact ⟨by rw [show H.length = D.length by omega], rfl⟩
  obtain ⟨rfl, rfl⟩ := hcut
  go_wp2_with fail
  refine (read_any a H cap w HB9.out (by have := HHL.out; omega)).mono ?_
  rintro e w1 ⟨R, Q, rfl, hR, hr, hb1⟩
  have hRs : R < w1.heap.size := hr.lt
  cases hd : rnum D most with
  | none =>
    have hdH : rnum H most = none := by rw [HH.out]; exact (rnum_cut_none D most).2 hd
    obtain ⟨pp, c', hsl, -, -, -, -⟩ := slice_low a D H.length cap (by have := HHL.out; omega) HNN.out hl hc
    have HSL := Lib.hid hsl
    clear hsl
    go_wp2_with fail
    refine (rnum_none R Q H false most w1 hr hdH).mono ?_
    rintro e w2 ⟨rfl, hr2, hg2⟩
    have hb2 : Below w.heap.size w w2 := below_grownBy (Nat.le_refl _) hb1 hg2 hR
    have r1 : ∀ W, Below w2.heap.size w2 W → Calls Try.prog 29 #[.pointer (some ⟨R, 0, none⟩)] W fun e w'' => e = .returned (.int .i64 0) ∧ Below w2.heap.size w2 w'' := fun W h => (left_any R Q [] true W (hr2.later h)).mono fun _ _ q => ⟨q.1, q.2 ▸ h⟩
    have r2 : ∀ W, Below w2.heap.size w2 W → Calls Try.prog 30 #[.pointer (some ⟨R, 0, none⟩)] W fun e w'' => e = .returned (.bool false) ∧ Below w2.heap.size w2 w'' := fun W h => (good_any R Q [] true W (hr2.later h)).mono fun _ _ q => ⟨q.1, q.2 ▸ h⟩
    have hw0 : wrap64 (H.length : Int) = (H.length : Int) := IntWalk.wrap64_in _ (by have := HHL.out; omega)
    have hsl2 : ∀ W : World, (Instr.sliceAt 22 (.slice a D.length cap) (some (.int .i64 (wrap64 (H.length : Int)))) none none).run Try.prog W = .ok (.slice pp (D.drop H.length).length c') W := by rw [hw0]; exact HSL.out
    have R1 := Lib.hid r1
    have R2 := Lib.hid r2
    have HS2 := Lib.hid hsl2
    have HB2 := Lib.hid hb2
    clear r1 r2 hsl2 hb2 hw0 hr hr2 hg2 hb1
    go_upto_region 4 with (fail)
    refine wp_region_below' (w0 := w2) (B := w2.heap.size) (by kernel_rfl) (by kernel_rfl) (Below.refl _ _) ?_
    repeat (first
      | go_big_quiet_skip
      | (go_big_quiet_want
         first
           | (refine quiet_enter' _ _ _ ?_ R1.out ?_
              · intro w; go_simp
              simp only [Act.put, List.setIfInBounds_toArray, List.set_cons_zero, List.set_cons_succ]
              go_big_quiet_on)
           | (refine quiet_enter' _ _ _ ?_ R2.out ?_
              · intro w; go_simp
              simp only [Act.put, List.setIfInBounds_toArray, List.set_cons_zero, List.set_cons_succ]
              go_big_quiet_on)
           | (refine quiet_slice_low 22 (.tmp 20) (.tmp 25) rfl _ HS2.out ?_
              simp only [Act.put, List.setIfInBounds_toArray, List.set_cons_zero, List.set_cons_succ]
              go_big_quiet_on)
           | (go_big_quiet_op
              first | refine ⟨_, fun _ _ => rfl, ?_⟩ | refine ⟨_, fun _ _ _ => rfl, ?_⟩ | refine ⟨_, fun _ _ _ _ => rfl, ?_⟩
              go_big_quiet_on)
           | (go_big_quiet_op
              go_big_quiet_on)))
    refine wpQuiet_nil ?_
    intro w3 hb3
    go_wp2_with fail
    go_ret3
    exact ⟨HB2.out.trans (hb3.mono HB2.out.size), .inl ⟨hd, _, _, _, rfl⟩⟩
  | some x =>
    obtain ⟨N, l'⟩ := x
    obtain ⟨hdH, hl', hsub, hpos, hmost⟩ := rnum_cut_some D most N l' hd
    rw [← HH.out] at hdH hsub
    obtain ⟨pp, c', hsl, hpp, hpn, hlc, hcc⟩ := slice_low a D (firstS D) cap (firstS_le D) HNN.out hl hc
    rw [← hl'] at hsl hpp hlc
    obtain ⟨H', hH'⟩ : ∃ H', H' = H.drop (firstS D) := ⟨_, rfl⟩
    rw [← hH'] at hdH hsub
    have hle : H'.length ≤ H.length := by rw [hH', List.length_drop]; omega
    have hsi : (H.length : Int) - (H'.length : Int) = (firstS D : Int) := by omega
    have hw0 : wrap64 ((H.length : Int) - (H'.length : Int)) = (firstS D : Int) := by rw [hsi]; exact IntWalk.wrap64_in _ (by have := firstS_nine D; omega)
    have hsl2 : ∀ W : World, (Instr.sliceAt 22 (.slice a D.length cap) (some (.int .i64 (wrap64 ((H.length : Int) - (H'.length : Int))))) none none).run Try.prog W = .ok (.slice pp l'.length c') W := by rw [hw0]; exact hsl
    have HS2 := Lib.hid hsl2
    have HPD := Lib.hid hpp
    have HLL := Lib.hid hl'
    have HHH := Lib.hid hH'
    clear hsl hpp hsl2 hw0 hsi hl' hH'
    go_wp2_with fail
    refine (rnum_some R Q H false most N H' w1 hr hdH).mono ?_
    rintro e w2 ⟨rfl, hr2, hg2⟩
    have hb2 : Below w.heap.size w w2 := below_grownBy (Nat.le_refl _) hb1 hg2 hR
    have r1 : ∀ W, Below w2.heap.size w2 W → Calls Try.prog 29 #[.pointer (some ⟨R, 0, none⟩)] W fun e w'' => e = .returned (.int .i64 (H'.length : Int)) ∧ Below w2.heap.size w2 w'' := fun W h => (left_any R Q H' false W (hr2.later h)).mono fun _ _ q => ⟨q.1, q.2 ▸ h⟩
    have r2 : ∀ W, Below w2.heap.size w2 W → Calls Try.prog 30 #[.pointer (some ⟨R, 0, none⟩)] W fun e w'' => e = .returned (.bool true) ∧ Below w2.heap.size w2 w'' := fun W h => (good_any R Q H' false W (hr2.later h)).mono fun _ _ q => ⟨q.1, q.2 ▸ h⟩
    have R1 := Lib.hid r1
    have R2 := Lib.hid r2
    have HB2 := Lib.hid hb2
    clear r1 r2 hb2 hr hr2 hg2 hb1
    go_upto_region 4 with (fail)
    refine wp_region_below' (w0 := w2) (B := w2.heap.size) (by kernel_rfl) (by kernel_rfl) (Below.refl _ _) ?_
    repeat (first
      | go_big_quiet_skip
      | (go_big_quiet_want
         first
           | (refine quiet_enter' _ _ _ ?_ R1.out ?_
              · intro w; go_simp
              simp only [Act.put, List.setIfInBounds_toArray, List.set_cons_zero, List.set_cons_succ]
              go_big_quiet_on)
           | (refine quiet_enter' _ _ _ ?_ R2.out ?_
              · intro w; go_simp
              simp only [Act.put, List.setIfInBounds_toArray, List.set_cons_zero, List.set_cons_succ]
              go_big_quiet_on)
           | (refine quiet_slice_low 22 (.tmp 20) (.tmp 25) rfl _ HS2.out ?_
              simp only [Act.put, List.setIfInBounds_toArray, List.set_cons_zero, List.set_cons_succ]
              go_big_quiet_on)
           | (go_big_quiet_op
              first | refine ⟨_, fun _ _ => rfl, ?_⟩ | refine ⟨_, fun _ _ _ => rfl, ?_⟩ | refine ⟨_, fun _ _ _ _ => rfl, ?_⟩
              go_big_quiet_on)
           | (go_big_quiet_op
              go_big_quiet_on)))
    refine wpQuiet_nil ?_
    intro w3 hb3
    go_wp2_with fail
    go_ret3
    exact ⟨HB2.out.trans (hb3.mono HB2.out.size), .inr ⟨N, l', pp, c', hd, rfl, HPD.out, hpn, hlc, hcc⟩⟩
end Go.Proofs.Ytpdoiodgdhlecaa
