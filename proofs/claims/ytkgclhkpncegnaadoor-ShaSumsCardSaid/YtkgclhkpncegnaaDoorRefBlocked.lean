/-
  The reference's bytes with what stands behind them.
-/
import Derived.Test.YtkgclhkpncegnaaDoorPartsKit
namespace Go.Proofs.YtkgclhkpncegnaaDoor
open Go.RowKit
set_option linter.unusedSimpArgs false
set_option linter.unusedVariables false

theorem lastL_take (l : List UInt8) (n : Nat) : ∀ k, k ≤ l.length → (l ++ (128 :: (List.replicate (padLen l.length) 0 ++ lenBytes n))).take k = l.take k := fun k h => List.take_append_of_le_length h

set_option maxRecDepth 100000 in
set_option maxHeartbeats 2000000 in
theorem blocked_any (a : Option Addr) (l : List UInt8) (cap : Nat) (w : World) (hb : BytesAt w a l) (hl : l.length ≤ 100000) :
    Calls Tryd.prog 25 #[.slice a l.length cap] w fun e w' => ∃ v, e = .returned v ∧ Own w w' v (lastL l l.length) := by
  obtain ⟨i0, hi, hz0, hz1, hz2⟩ := info_parts infoByte
  have hown0 := ownsRow_empty w 5
  have hbel0 : Below w.heap.size w (w.alloc (.cells #[] 5)) := (Below.refl _ w).alloc (Nat.le_refl _) _
  go_enter Tryd.func25, Tryd.ntmps25
  go_wp2_with fail
  go_loopw [3, 4] (fun s3 s4 wr => ∃ k : Nat, k ≤ l.length ∧ s4 = .int .i64 (k : Int) ∧ wr.ownsRow w.heap.size 5 1 s3 k (bvs (l.take k)) ∧ Below w.heap.size w wr) (fun _ s4 _ => l.length - (intOf s4).toNat)
  case atStart => exact ⟨0, Nat.zero_le _, rfl, hown0, hbel0⟩
  case round =>
    obtain ⟨k, hk, rfl, howr, hbr⟩ := hrel
    clear hown0 hbel0
    have hsz := hbr.size
    by_cases hlt : k < l.length
    · obtain ⟨b1, o1, rfl, hc1⟩ := (hb.later hbr) k hlt
      obtain ⟨x, hx⟩ : ∃ x, x = l[k] := ⟨_, rfl⟩
      have hts : l.take (k + 1) = l.take k ++ [x] := by rw [hx]; exact List.take_succ_eq_append_getElem hlt
      rw [← hx] at hc1
      have HTS := Lib.hid hts
      clear hx hts hb
      go_wp2_with (at_builtin; refine wpList_append_own _ rfl (.tmp 14) (.tmp 19) 22 rfl w.heap.size 5 i0 (.int .u8 0) 1 1 Tryd.underlying22 hi hz0 hz1 hz2 rfl (by decide) _ _ _ rfl (howr.alloc _) ⟨wr.heap.size, 0, none⟩ 1 1 [.int .u8 (x.toNat : Int)] rfl rfl ?c1 ?c2 ?c3 ?c4 ?c5 ?_)
      case c1 => exact cell_one_new _ _ _
      case c2 => exact bv_oneCell x
      case c3 => unfold maxLen; omega
      case c4 => omega
      case c5 => simp; omega
      intro v' w2 hown' hgrow _
      go_wp2
      go_roundw
      case rel => exact ⟨k + 1, by omega, by go_num, ownsRow_cast hown' rfl (by rw [HTS.out, bvs_append, bvs_one]), (hbr.alloc hsz _).grown hgrow (by simp; omega) (fun k hk => (howr.lt k hk).1)⟩
      case measure => simp [intOf]; omega
    · obtain rfl : k = l.length := by omega
      rw [List.take_of_length_le (Nat.le_refl _)] at howr
      clear hk hlt hb
      go_wp2_with (at_builtin; refine wpList_append_own _ rfl (.tmp 21) (.tmp 22) 22 rfl w.heap.size 5 i0 (.int .u8 0) 1 1 Tryd.underlying22 hi hz0 hz1 hz2 rfl (by decide) _ _ _ rfl (howr.alloc _) ⟨wr.heap.size, 0, none⟩ 1 1 [.int .u8 128] rfl rfl ?c1 ?c2 ?c3 ?c4 ?c5 ?_)
      case c1 => exact cell_one_new _ _ _
      case c2 => intro u hu; simp at hu; subst hu; rfl
      case c3 => unfold maxLen; omega
      case c4 => omega
      case c5 => simp; omega
      intro v2 w2 hown2 hgrow2 _
      have hb2 := (hbr.alloc hsz (.cells #[.int .u8 128] 5)).grown hgrow2 (by simp; omega) (fun k hk => (howr.lt k hk).1)
      clear hgrow2 howr hbr hsz
      go_wp2_with fail
      have ho3 : Own w w2 v2 (l ++ (128 :: List.replicate 0 0)) := ⟨ownsRow_cast hown2 (by simp) (by rw [bvs_append]; rfl), hb2⟩
      have HO3 := Lib.hid ho3
      clear ho3 hown2 hb2
      go_loopw [3] (fun s3 wr => ∃ z : Nat, z ≤ padLen l.length ∧ Own w wr s3 (l ++ (128 :: List.replicate z 0))) (fun s3 _ => l.length + 128 - lenOf s3)
      case atStart => exact ⟨0, Nat.zero_le _, HO3.out⟩
      case round =>
        obtain ⟨z, hz, hown, hbx⟩ := hrel
        have hlen : (l ++ (128 :: List.replicate z 0)).length = l.length + 1 + z := by simp; omega
        rw [hlen] at hown
        obtain ⟨g, c, rfl⟩ := own_slice hown (by omega)
        have hszx := hbx.size
        have hp : padLen l.length ≤ 63 := by unfold padLen; omega
        by_cases hlt : z < padLen l.length
        · have hne : ¬ ((l.length : Int) + 1 + (z : Int)) % 64 = 56 := by unfold padLen at hlt; omega
          go_wp2_with (at_builtin; refine wpList_append_own _ rfl (.tmp 28) (.tmp 29) 22 rfl w.heap.size 5 i0 (.int .u8 0) 1 1 Tryd.underlying22 hi hz0 hz1 hz2 rfl (by decide) _ _ _ rfl (hown.alloc _) ⟨_, 0, none⟩ 1 1 [.int .u8 0] rfl rfl ?d1 ?d2 ?d3 ?d4 ?d5 ?_)
          case d1 => exact cell_one_new _ _ _
          case d2 => intro u hu; simp at hu; subst hu; rfl
          case d3 => unfold maxLen; omega
          case d4 => omega
          case d5 => simp; omega
          intro v4 w4 hown4 hgr4 _
          obtain ⟨g4, c4, rfl⟩ := own_slice hown4 (by omega)
          have ho4 : Own w w4 (.slice (some ⟨g4, 0, none⟩) (l.length + 1 + z + 1) c4) (l ++ (128 :: List.replicate (z + 1) 0)) :=
            ⟨ownsRow_cast hown4 (by simp; omega) (by rw [List.replicate_succ', bvs_append, bvs_append]; simp [bvs]; rfl), (hbx.alloc hszx _).grown hgr4 (by simp; omega) (fun k hk => (hown.lt k hk).1)⟩
          have HO4 := Lib.hid ho4
          clear ho4 hown4 hgr4 hown hbx hne
          go_wp2_with fail
          exact ⟨⟨z + 1, by omega, HO4.out⟩, by simp only [lenOf]; omega⟩
        · have heq : ((l.length : Int) + 1 + (z : Int)) % 64 = 56 := by unfold padLen at hlt hz; omega
          obtain rfl : z = padLen l.length := by omega
          obtain ⟨B, hB⟩ : ∃ B, B = l ++ (128 :: List.replicate (padLen l.length) 0) := ⟨_, rfl⟩
          have hBl : B.length = l.length + 1 + padLen l.length := by rw [hB]; exact hlen
          rw [← hB] at hown
          have HBB := Lib.hid hB
          have HBL := Lib.hid hBl
          have hoB : Own w wr (.slice (some ⟨g, 0, none⟩) (l.length + 1 + padLen l.length) c) (B ++ (lenBytes l.length).take 0) := by
            rw [List.take_zero, List.append_nil]
            exact ⟨ownsRow_cast hown hBl.symm rfl, hbx⟩
          have HOB := Lib.hid hoB
          clear hB hBl hoB hown hbx
          go_wp2_with fail
          obtain ⟨m, hm⟩ : ∃ m, m = 8 * l.length % 2 ^ 64 := ⟨_, rfl⟩
          have hm2 : (l.length : Int) * 8 = (m : Int) := by rw [hm]; omega
          try rw [hm2]
          have HMM := Lib.hid hm
          clear hm heq
          have hBl := HBL.out
          go_loopw [3, 6] (fun s3 s6 wr => ∃ i : Nat, i ≤ 8 ∧ s6 = .int .i64 (i : Int) ∧ Own w wr s3 (B ++ (lenBytes l.length).take i)) (fun _ s6 _ => 8 - (intOf s6).toNat)
          case atStart => exact ⟨0, Nat.zero_le _, rfl, HOB.out⟩
          case round =>
            obtain ⟨i, hi8, rfl, hown, hbx⟩ := hrel
            have hlen : (B ++ (lenBytes l.length).take i).length = B.length + i := by rw [List.length_append, List.length_take, lenBytes_length]; omega
            rw [hlen] at hown
            have hszx := hbx.size
            by_cases hlt2 : i < 8
            · have hm64 : (m : Int) < 1000000 := by omega
              clear hm2 HOB hlt hz hm64
              go_wp2_with (at_builtin; refine wpList_append_own _ rfl (.tmp 39) (.tmp 47) 22 rfl w.heap.size 5 i0 (.int .u8 0) 1 1 Tryd.underlying22 hi hz0 hz1 hz2 rfl (by decide) _ _ _ rfl (hown.alloc _) ⟨_, 0, none⟩ 1 1 [.int .u8 ((m : Int) / 2 ^ (56 - 8 * i) % 256)] rfl rfl ?e1 ?e2 ?e3 ?e4 ?e5 ?_)
              case e1 => exact cell_one_new _ _ _
              case e2 => intro u hu; simp at hu; subst hu; rfl
              case e3 => unfold maxLen; omega
              case e4 => omega
              case e5 => simp; omega
              intro v5 w5 hown5 hgr5 _
              have hv : ((m : Int) / 2 ^ (56 - 8 * i) % 256) = ((UInt8.ofNat (8 * l.length % 2 ^ 64 / 2 ^ (8 * (7 - i)))).toNat : Int) := by
                rw [UInt8.toNat_ofNat', ← HMM.out, Int.natCast_emod, Int.natCast_ediv, Int.natCast_pow, show 8 * (7 - i) = 56 - 8 * i by omega]
                rfl
              have hlen5 : (B ++ (lenBytes l.length).take (i + 1)).length = B.length + (i + 1) := by rw [List.length_append, List.length_take, lenBytes_length]; omega
              have ho5 : Own w w5 v5 (B ++ (lenBytes l.length).take (i + 1)) :=
                ⟨ownsRow_cast hown5 (by rw [hlen5]; omega) (by rw [lenBytes_snoc _ i hlt2, ← List.append_assoc, bvs_append _ [_], bvs_one, hv]), (hbx.alloc hszx _).grown hgr5 (by simp; omega) (fun k hk => (hown.lt k hk).1)⟩
              have HO5 := Lib.hid ho5
              clear ho5 hown5 hgr5 hown hbx hlen hlen5 hv
              go_wp2_with fail
              exact ⟨⟨i + 1, by omega, by go_num, HO5.out⟩, by simp [intOf]; omega⟩
            · obtain rfl : i = 8 := by omega
              have eqL : B ++ (lenBytes l.length).take 8 = lastL l l.length := by
                rw [List.take_of_length_le (by rw [lenBytes_length]; omega), HBB.out, lastL]
                simp
              rw [eqL] at hown hlen
              have hfin : Own w wr _ (lastL l l.length) := ⟨ownsRow_cast hown hlen.symm rfl, hbx⟩
              clear hown hlen hbx eqL
              go_wp2_with fail
              go_ret
              exact ⟨_, rfl, hfin⟩
end Go.Proofs.YtkgclhkpncegnaaDoor
