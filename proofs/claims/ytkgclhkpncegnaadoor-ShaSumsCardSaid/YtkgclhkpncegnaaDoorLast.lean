/-
  What follows the whole blocks.
-/
import Derived.Test.YtkgclhkpncegnaaDoorSumMath
import Derived.Maps.AppendAt
import Derived.Laws.AppendOwn
import Derived.Laws.MakeOwn
import Derived.Laws.AppendOwnNone
namespace Go.Proofs.YtkgclhkpncegnaaDoor
open Go.RowKit
set_option linter.unusedSimpArgs false
set_option linter.unusedVariables false

theorem BytesAt.nil_of_none {w : World} {l : List UInt8} (h : BytesAt w none l) : l = [] := by
  cases l with
  | nil => rfl
  | cons d l => obtain ⟨_, _, h1, _⟩ := h 0 (by simp); simp at h1
theorem wrap_bits (n : Nat) : IntKind.u64.wrap (8 * (n : Int)) = ((8 * n % 2 ^ 64 : Nat) : Int) := by
  simp [IntKind.wrap, IntKind.signed, IntKind.bits]
theorem lenBytes_snoc (n i : Nat) (h : i < 8) : (lenBytes n).take (i + 1) = (lenBytes n).take i ++ [UInt8.ofNat (8 * n % 2 ^ 64 / 2 ^ (8 * (7 - i)))] := by
  rw [List.take_add_one, List.getElem?_eq_getElem (by rw [lenBytes_length]; exact h)]
  simp [lenBytes]
theorem own_slice {w : World} {base n : Nat} {e : TypeId} {v : Value} {xs : List Value} (h : w.ownsRow base e 1 v n xs) (hn : 0 < n) : ∃ g cap, v = .slice (some ⟨g, 0, none⟩) n cap := by
  rcases h.2 with ⟨h0, h1⟩ | ⟨g, cap, cur, h1, _⟩
  · omega
  · exact ⟨g, cap, h1⟩
def lenOf : Value → Nat
  | .slice _ n _ => n
  | _ => 0
/-- What the loops begin with: the bytes that are there, in a row of one's own. -/
def Own (w0 w : World) (v : Value) (l : List UInt8) : Prop := w.ownsRow w0.heap.size 5 1 v l.length (bvs l) ∧ Below w0.heap.size w0 w

set_option maxRecDepth 100000 in
set_option maxHeartbeats 1000000 in
theorem last_any (a : Option Addr) (rest : List UInt8) (cap n : Nat) (w : World) (hb : BytesAt w a rest) (hcap : a = none → cap = 0) (hl : rest.length < 64) (hn : n ≤ 9223372036854775807) :
    Calls Tryd.prog 24 #[.slice a rest.length cap, .int .i64 (n : Int)] w fun e w' => ∃ v, e = .returned v ∧ Own w w' v (lastL rest n) := by
  obtain ⟨i0, hi, hz0, hz1, hz2⟩ := info_parts infoByte
  obtain ⟨w1, hrun, hown1, hgr1⟩ := run_make_own (P := Tryd.prog) (w := w) w.heap.size 22 5 i0 (.int .u8 0) 1 Tryd.underlying22 hi hz0 hz1 .i64 .i64 128 (by rw [hz2]; decide) (by unfold maxLen; omega) (Nat.le_refl _)
  have hmk : (Instr.makeSlice 22 (.int .i64 0) (.int .i64 128)).run Tryd.prog w = .ok (.slice (some ⟨w.heap.size, 0, none⟩) 0 128) w1 := hrun
  have hb1 : Below w.heap.size w w1 := ⟨hgr1.os, hgr1.tape, hgr1.output, hgr1.size, fun k hk => hgr1.block k hk (by simp)⟩
  have hsz1 := hb1.size
  have HOWN := Lib.hid hown1
  have HB := Lib.hid hb1
  clear hrun hgr1 hown1 hb1
  go_enter Tryd.func24, Tryd.ntmps24
  go_upto_region 2 with (fail)
  clear hmk
  go_cut [5] (fun s5 wx => Own w wx s5 rest)
  case first =>
    cases a with
    | none =>
      obtain rfl : rest = [] := hb.nil_of_none
      obtain rfl : cap = 0 := hcap rfl
      go_wp2_with (at_builtin; refine wpList_append_own_none rfl (.tmp 9) (.tmp 10) 22 rfl w.heap.size 5 i0 1 Tryd.underlying22 hi _ _ _ rfl HOWN.out rfl ?_)
      go_wp2_with fail
      go_meet
      exact ⟨HOWN.out, HB.out⟩
    | some ad =>
      go_wp2_with (at_builtin; refine wpList_append_own _ rfl (.tmp 9) (.tmp 10) 22 rfl w.heap.size 5 i0 (.int .u8 0) 1 1 Tryd.underlying22 hi hz0 hz1 hz2 rfl (by decide) _ _ _ rfl HOWN.out ad rest.length cap (bvs rest) rfl ?c1 ?c2 (bvs_oneCell rest) ?c3 ?c4 hsz1 ?_)
      case c1 => rw [bvs_length, Nat.mul_one]
      case c2 =>
        intro j u hj
        have hpos : 0 < (bvs rest).length := by have := (List.getElem?_eq_some_iff.1 hj).1; omega
        obtain ⟨ad', e, hs⟩ := (BytesAt.later' hb HB.out).src hpos
        cases e
        exact hs j u hj
      case c3 => unfold maxLen; omega
      case c4 => omega
      intro v2 w2 hown2 hgr2 _
      go_wp2_with fail
      go_meet
      exact ⟨ownsRow_cast hown2 (by omega) (by simp), HB.out.grown hgr2 hsz1 (fun k hk => (HOWN.out.lt k hk).1)⟩
  have hown := hcut.1
  have hbx := hcut.2
  clear hcut
  have hszx := hbx.size
  go_wp2_with (at_builtin; refine wpList_append_own _ rfl (.tmp 12) (.tmp 13) 22 rfl w.heap.size 5 i0 (.int .u8 0) 1 1 Tryd.underlying22 hi hz0 hz1 hz2 rfl (by decide) _ _ _ rfl (hown.alloc _) ⟨_, 0, none⟩ 1 1 [.int .u8 128] rfl rfl ?c1 ?c2 ?c3 ?c4 ?c5 ?_)
  case c1 => exact cell_one_new _ _ _
  case c2 => intro u hu; simp at hu; subst hu; rfl
  case c3 => unfold maxLen; omega
  case c4 => omega
  case c5 => simp; omega
  intro v3 w3 hown3 hgr3 _
  have ho3 : Own w w3 v3 (rest ++ (128 :: List.replicate 0 0)) := ⟨ownsRow_cast hown3 (by simp) (by rw [bvs_append]; rfl), (hbx.alloc hszx _).grown hgr3 (by simp; omega) (fun k hk => (hown.lt k hk).1)⟩
  have HO3 := Lib.hid ho3
  clear ho3 hown3 hgr3 hown hbx hszx
  go_wp2_with fail
  go_loopw [5] (fun s5 wr => ∃ z : Nat, z ≤ padLen rest.length ∧ Own w wr s5 (rest ++ (128 :: List.replicate z 0))) (fun s5 _ => 128 - lenOf s5)
  case atStart => exact ⟨0, Nat.zero_le _, HO3.out⟩
  case round =>
    obtain ⟨z, hz, hown, hbx⟩ := hrel
    have hlen : (rest ++ (128 :: List.replicate z 0)).length = rest.length + 1 + z := by simp; omega
    rw [hlen] at hown
    obtain ⟨g, c, rfl⟩ := own_slice hown (by omega)
    have hszx := hbx.size
    have hp : padLen rest.length ≤ 63 := by unfold padLen; omega
    by_cases hlt : z < padLen rest.length
    · have hne : ¬ ((rest.length : Int) + 1 + (z : Int)) % 64 = 56 := by unfold padLen at hlt; omega
      go_wp2_with (at_builtin; refine wpList_append_own _ rfl (.tmp 19) (.tmp 20) 22 rfl w.heap.size 5 i0 (.int .u8 0) 1 1 Tryd.underlying22 hi hz0 hz1 hz2 rfl (by decide) _ _ _ rfl (hown.alloc _) ⟨_, 0, none⟩ 1 1 [.int .u8 0] rfl rfl ?d1 ?d2 ?d3 ?d4 ?d5 ?_)
      case d1 => exact cell_one_new _ _ _
      case d2 => intro u hu; simp at hu; subst hu; rfl
      case d3 => unfold maxLen; omega
      case d4 => omega
      case d5 => simp; omega
      intro v4 w4 hown4 hgr4 _
      obtain ⟨g4, c4, rfl⟩ := own_slice hown4 (by omega)
      have ho4 : Own w w4 (.slice (some ⟨g4, 0, none⟩) (rest.length + 1 + z + 1) c4) (rest ++ (128 :: List.replicate (z + 1) 0)) :=
        ⟨ownsRow_cast hown4 (by simp; omega) (by rw [List.replicate_succ', bvs_append, bvs_append]; simp [bvs]; rfl), (hbx.alloc hszx _).grown hgr4 (by simp; omega) (fun k hk => (hown.lt k hk).1)⟩
      have HO4 := Lib.hid ho4
      clear ho4 hown4 hgr4 hown hbx hne
      go_wp2_with fail
      exact ⟨⟨z + 1, by omega, HO4.out⟩, by simp only [lenOf]; omega⟩
    · have heq : ((rest.length : Int) + 1 + (z : Int)) % 64 = 56 := by unfold padLen at hlt hz; omega
      obtain rfl : z = padLen rest.length := by omega
      obtain ⟨B, hB⟩ : ∃ B, B = rest ++ (128 :: List.replicate (padLen rest.length) 0) := ⟨_, rfl⟩
      have hBl : B.length = rest.length + 1 + padLen rest.length := by rw [hB]; exact hlen
      rw [← hB] at hown
      have HBB := Lib.hid hB
      have HBL := Lib.hid hBl
      have hoB : Own w wr (.slice (some ⟨g, 0, none⟩) (rest.length + 1 + padLen rest.length) c) (B ++ (lenBytes n).take 0) := by
        rw [List.take_zero, List.append_nil]
        exact ⟨ownsRow_cast hown hBl.symm rfl, hbx⟩
      have HOB := Lib.hid hoB
      clear hB hBl hoB hown hbx
      go_wp2_with fail
      rw [wrap_bits]
      obtain ⟨m, hm⟩ : ∃ m, m = 8 * n % 2 ^ 64 := ⟨_, rfl⟩
      have hm64 : m < 18446744073709551616 := by rw [hm]; exact Nat.mod_lt _ (by decide)
      have HMM := Lib.hid hm
      rw [← hm]
      clear hm heq
      have hBl := HBL.out
      go_loopw [5, 7, 25] (fun s5 _ s25 wr => ∃ i : Nat, i ≤ 8 ∧ s25 = .int .i64 (i : Int) ∧ Own w wr s5 (B ++ (lenBytes n).take i)) (fun _ _ s25 _ => 8 - (intOf s25).toNat)
      case atStart => exact ⟨0, Nat.zero_le _, rfl, HOB.out⟩
      case round =>
        obtain ⟨i, hi8, rfl, hown, hbx⟩ := hrel
        have hlen : (B ++ (lenBytes n).take i).length = B.length + i := by rw [List.length_append, List.length_take, lenBytes_length]; omega
        rw [hlen] at hown
        have hszx := hbx.size
        by_cases hlt2 : i < 8
        · go_wp2_with (at_builtin; refine wpList_append_own _ rfl (.tmp 28) (.tmp 35) 22 rfl w.heap.size 5 i0 (.int .u8 0) 1 1 Tryd.underlying22 hi hz0 hz1 hz2 rfl (by decide) _ _ _ rfl (hown.alloc _) ⟨_, 0, none⟩ 1 1 [.int .u8 ((m : Int) / 2 ^ (8 * (7 - i)) % 256)] rfl rfl ?e1 ?e2 ?e3 ?e4 ?e5 ?_)
          case e1 => exact cell_one_new _ _ _
          case e2 => intro u hu; simp at hu; subst hu; rfl
          case e3 => unfold maxLen; omega
          case e4 => omega
          case e5 => simp; omega
          intro v5 w5 hown5 hgr5 _
          have hv : ((m : Int) / 2 ^ (8 * (7 - i)) % 256) = ((UInt8.ofNat (8 * n % 2 ^ 64 / 2 ^ (8 * (7 - i)))).toNat : Int) := by
            rw [UInt8.toNat_ofNat', ← HMM.out, Int.natCast_emod, Int.natCast_ediv, Int.natCast_pow]
            rfl
          have hlen5 : (B ++ (lenBytes n).take (i + 1)).length = B.length + (i + 1) := by rw [List.length_append, List.length_take, lenBytes_length]; omega
          have ho5 : Own w w5 v5 (B ++ (lenBytes n).take (i + 1)) :=
            ⟨ownsRow_cast hown5 (by rw [hlen5]; omega) (by rw [lenBytes_snoc n i hlt2, ← List.append_assoc, bvs_append _ [_], bvs_one, hv]), (hbx.alloc hszx _).grown hgr5 (by simp; omega) (fun k hk => (hown.lt k hk).1)⟩
          have HO5 := Lib.hid ho5
          clear ho5 hown5 hgr5 hown hbx hlen hlen5 hv
          go_wp2_with fail
          exact ⟨⟨i + 1, by omega, by go_num, HO5.out⟩, by simp [intOf]; omega⟩
        · obtain rfl : i = 8 := by omega
          have eqL : B ++ (lenBytes n).take 8 = lastL rest n := by
            rw [List.take_of_length_le (by rw [lenBytes_length]; omega), HBB.out, lastL]
            simp
          rw [eqL] at hown hlen
          have hfin : Own w wr _ (lastL rest n) := ⟨ownsRow_cast hown hlen.symm rfl, hbx⟩
          clear hown hlen hbx eqL
          go_wp2_with fail
          go_ret
          exact ⟨_, rfl, hfin⟩
end Go.Proofs.YtkgclhkpncegnaaDoor
