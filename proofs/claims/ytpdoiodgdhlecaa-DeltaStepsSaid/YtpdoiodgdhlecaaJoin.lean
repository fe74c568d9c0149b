/-
  The walks of pollardref01.Join, pollardref02.Num and Text.
-/
import Derived.Test.YtpdoiodgdhlecaaText
namespace Go.Proofs.Ytpdoiodgdhlecaa
open Go.RowKit

set_option maxRecDepth 100000 in
set_option maxHeartbeats 1000000 in
theorem join_any (a b : Option Addr) (l m : List UInt8) (c d : Nat) (w : World) (ha : BytesAt w a l) (hb : BytesAt w b m) (hl : l.length + m.length ≤ 140737488355328) :
    Calls Try.prog 20 #[.slice a l.length c, .slice b m.length d] w fun e w' => ∃ v, e = .returned v ∧ w'.ownsRow w.heap.size 5 1 v (l ++ m).length (bvs (l ++ m)) ∧ Below w.heap.size w w' := by
  obtain ⟨i0, hi, hz0, hz1, hz2⟩ := info_parts infoByte
  have hown0 := ownsRow_empty w 5
  have hbel0 : Below w.heap.size w (w.alloc (.cells #[] 5)) := (Below.refl _ w).alloc (Nat.le_refl _) _
  go_enter Try.func20, Try.ntmps20
  go_wp2_with fail
  go_loopw [5, 6] (fun s5 s6 wr => ∃ k : Nat, k ≤ l.length ∧ s6 = .int .i64 (k : Int) ∧ wr.ownsRow w.heap.size 5 1 s5 k (bvs (l.take k)) ∧ Below w.heap.size w wr) (fun _ s6 _ => l.length - (intOf s6).toNat)
  case atStart => exact ⟨0, Nat.zero_le _, rfl, hown0, hbel0⟩
  case round =>
    obtain ⟨k, hk, rfl, howr, hbr⟩ := hrel
    clear hown0 hbel0
    have hsz := hbr.size
    by_cases hlt : k < l.length
    · obtain ⟨b1, o1, rfl, hc1⟩ := (ha.later hbr) k hlt
      obtain ⟨x, hx⟩ : ∃ x, x = l[k] := ⟨_, rfl⟩
      have hts : l.take (k + 1) = l.take k ++ [x] := by rw [hx]; exact List.take_succ_eq_append_getElem hlt
      rw [← hx] at hc1
      have HTS := Lib.hid hts
      clear hx hts ha hb
      go_wp2_with (at_builtin; refine wpList_append_own _ rfl (.tmp 15) (.tmp 20) 22 rfl w.heap.size 5 i0 (.int .u8 0) 1 1 Try.underlying22 hi hz0 hz1 hz2 rfl (by decide) _ _ _ rfl (howr.alloc _) ⟨wr.heap.size, 0, none⟩ 1 1 [.int .u8 (x.toNat : Int)] rfl rfl ?c1 ?c2 ?c3 ?c4 ?c5 ?_)
      case c1 => exact cell_one_new _ _ _
      case c2 => exact bv_oneCell x
      case c3 => unfold maxLen; omega
      case c4 => omega
      case c5 => simp; omega
      intro v' w2 hown' hgrow _
      go_wp2
      go_roundw
      case rel => exact ⟨k + 1, by omega, by go_num, ownsRow_cast hown' rfl (by rw [HTS.out, bvs_append, bvs_one]), (hbr.alloc hsz _).grown hgrow (by simp; omega) (fun k hk => (howr.lt k hk).1)⟩
      case measure => simp [intOf]; omega
    · have hk' : k = l.length := by omega
      subst hk'
      rw [List.take_of_length_le (Nat.le_refl _)] at howr
      have hown1 := howr
      have hb1 := hbr
      clear howr hbr hk hlt
      go_wp2_with fail
      go_loopw [5, 7] (fun s5 s7 wr => ∃ k : Nat, k ≤ m.length ∧ s7 = .int .i64 (k : Int) ∧ wr.ownsRow w.heap.size 5 1 s5 (l.length + k) (bvs (l ++ m.take k)) ∧ Below w.heap.size w wr) (fun _ s7 _ => m.length - (intOf s7).toNat)
      case atStart => exact ⟨0, Nat.zero_le _, rfl, ownsRow_cast hown1 rfl (by simp), hb1⟩
      case round =>
        obtain ⟨k, hk, rfl, howr, hbr⟩ := hrel
        clear hown1 hb1 hsz
        have hsz := hbr.size
        by_cases hlt : k < m.length
        · obtain ⟨b1, o1, rfl, hc1⟩ := (hb.later hbr) k hlt
          obtain ⟨x, hx⟩ : ∃ x, x = m[k] := ⟨_, rfl⟩
          have hts : m.take (k + 1) = m.take k ++ [x] := by rw [hx]; exact List.take_succ_eq_append_getElem hlt
          rw [← hx] at hc1
          have HTS := Lib.hid hts
          clear hx hts ha hb
          go_wp2_with (at_builtin; refine wpList_append_own _ rfl (.tmp 28) (.tmp 33) 22 rfl w.heap.size 5 i0 (.int .u8 0) 1 1 Try.underlying22 hi hz0 hz1 hz2 rfl (by decide) _ _ _ rfl (howr.alloc _) ⟨wr.heap.size, 0, none⟩ 1 1 [.int .u8 (x.toNat : Int)] rfl rfl ?d1 ?d2 ?d3 ?d4 ?d5 ?_)
          case d1 => exact cell_one_new _ _ _
          case d2 => exact bv_oneCell x
          case d3 => unfold maxLen; omega
          case d4 => omega
          case d5 => simp; omega
          intro v' w2 hown' hgrow _
          go_wp2
          go_roundw
          case rel => exact ⟨k + 1, by omega, by go_num, ownsRow_cast hown' rfl (by rw [HTS.out, ← List.append_assoc, bvs_append _ [x], bvs_one]), (hbr.alloc hsz _).grown hgrow (by simp; omega) (fun k hk => (howr.lt k hk).1)⟩
          case measure => simp [intOf]; omega
        · have hk' : k = m.length := by omega
          subst hk'
          rw [List.take_of_length_le (Nat.le_refl _)] at howr
          clear hk hlt ha hb
          go_wp2
          go_ret
          exact ⟨_, rfl, ownsRow_cast howr (by simp) rfl, hbr⟩

set_option maxRecDepth 100000 in
set_option maxHeartbeats 1000000 in
theorem refnum_any (n : Int) (w : World) :
    Calls Try.prog 16 #[.int .i64 n] w fun e w' => ∃ v, e = .returned v ∧ w'.ownsRow w.heap.size 5 1 v (encNum (clampN n)).length (bvs (encNum (clampN n))) ∧ Below w.heap.size w w' := by
  obtain ⟨i0, hi, hz0, hz1, hz2⟩ := info_parts infoByte
  have hn9 := encNum_le9 (clampN_le n)
  obtain ⟨N, hN⟩ : ∃ N, N = clampN n := ⟨_, rfl⟩
  have hNc : (N : Int) = clampI n := by rw [hN, clampN_cast]
  have hNb : Hid (N ≤ 4611686018427387904) := by rw [hN]; exact clampN_le n
  rw [← hN] at hn9 ⊢
  have hown0 := ownsRow_empty w 5
  have hbel0 : Below w.heap.size w (w.alloc (.cells #[] 5)) := (Below.refl _ w).alloc (Nat.le_refl _) _
  have hcase : (n < 0 ∧ N = 0) ∨ (¬ n < 0 ∧ 4611686018427387904 < n ∧ N = 4611686018427387904) ∨ (0 ≤ n ∧ n ≤ 4611686018427387904 ∧ n = (N : Int)) := by
    unfold clampI at hNc
    omega
  have hcase' : (n < 0 ∧ Hid (N = 0)) ∨ (¬ n < 0 ∧ 4611686018427387904 < n ∧ Hid (N = 4611686018427387904)) ∨ (0 ≤ n ∧ n ≤ 4611686018427387904 ∧ Hid (N = N) ∧ n = (N : Int)) := by
    rcases hcase with ⟨h1, h⟩ | ⟨h1, h2, h⟩ | ⟨h1, h2, h⟩
    · exact .inl ⟨h1, Lib.hid h⟩
    · exact .inr (.inl ⟨h1, h2, Lib.hid h⟩)
    · exact .inr (.inr ⟨h1, h2, Lib.hid rfl, h⟩)
  clear hN hNc hcase
  rcases hcase' with ⟨h1, HE⟩ | ⟨h1, h2, HE⟩ | ⟨h1, h2, HE, rfl⟩
  all_goals
   go_enter Try.func16, Try.ntmps16
   go_wp2_with fail
   go_loopw [0, 3] (fun s0 s3 wr => ∃ (m : Nat) (done : List UInt8), m ≤ 4611686018427387904 ∧ s0 = .int .i64 m ∧ done ++ encNum m = encNum N ∧ wr.ownsRow w.heap.size 5 1 s3 done.length (bvs done) ∧ Below w.heap.size w wr) (fun s0 _ _ => (intOf s0).toNat)
   case atStart => exact ⟨N, [], hNb.out, by first | rfl | (rw [HE.out]; rfl), rfl, hown0, hbel0⟩
   case round =>
     obtain ⟨m, done, hm, rfl, hdone, howr, hbr⟩ := hrel
     have HD := Lib.hid hdone
     have HM := Lib.hid hm
     clear hdone hm hown0 hbel0
     have hlen : done.length + (encNum m).length = (encNum N).length := by rw [← HD.out]; simp
     have HL := Lib.hid hlen
     clear hlen
     have hsz := hbr.size
     by_cases hbig : m < 128
     · obtain ⟨c, hc⟩ : ∃ c, c = UInt8.ofNat m := ⟨_, rfl⟩
       have e3 : (m : Int) = (c.toNat : Int) := by rw [hc, UInt8.toNat_ofNat', Nat.mod_eq_of_lt (by omega)]
       have E3 := Lib.hid e3
       have HC := Lib.hid hc
       clear e3 hc
       go_wp2_with (at_builtin; refine wpList_append_own _ rfl (.tmp 20) (.tmp 23) 22 rfl w.heap.size 5 i0 (.int .u8 0) 1 1 Try.underlying22 hi hz0 hz1 hz2 rfl (by decide) _ _ _ rfl (howr.alloc _) ⟨wr.heap.size, 0, none⟩ 1 1 [.int .u8 (m : Int)] rfl rfl ?c1 ?c2 ?c3 ?c4 ?c5 ?_)
       case c1 => exact cell_one_new _ _ _
       case c2 => intro u hu; simp at hu; subst hu; rfl
       case c3 => have := HL.out; unfold maxLen; omega
       case c4 => have := HL.out; omega
       case c5 => simp; omega
       intro v' w2 hown' hgrow _
       go_wp2
       go_ret
       refine ⟨_, rfl, ?_, (hbr.alloc hsz _).grown hgrow (by simp; omega) (fun k hk => (howr.lt k hk).1)⟩
       have h1 := HD.out
       rw [encNum_small hbig, ← HC.out] at h1
       refine ownsRow_cast hown' (by rw [← h1]; simp) ?_
       rw [← h1, bvs_append _ [c], bvs_one, E3.out]
     · obtain ⟨c, hc⟩ : ∃ c, c = UInt8.ofNat (m % 128 + 128) := ⟨_, rfl⟩
       have e2 : (m : Int) % 128 + 128 = (c.toNat : Int) := by rw [hc, UInt8.toNat_ofNat', Nat.mod_eq_of_lt (by omega)]; omega
       have HC := Lib.hid hc
       have hm63 := HM.out
       clear hc
       go_wp2_with (at_builtin; refine wpList_append_own _ rfl (.tmp 11) (.tmp 16) 22 rfl w.heap.size 5 i0 (.int .u8 0) 1 1 Try.underlying22 hi hz0 hz1 hz2 rfl (by decide) _ _ _ rfl (howr.alloc _) ⟨wr.heap.size, 0, none⟩ 1 1 [.int .u8 (c.toNat : Int)] rfl rfl ?d1 ?d2 ?d3 ?d4 ?d5 ?_)
       case d1 => exact cell_one_new _ _ _
       case d2 => exact bv_oneCell c
       case d3 => have := HL.out; unfold maxLen; omega
       case d4 => have := HL.out; omega
       case d5 => simp; omega
       intro v' w2 hown' hgrow _
       clear e2
       go_wp2
       go_roundw
       case rel =>
         refine ⟨m / 128, done ++ [c], by have := HM.out; omega, by go_num, ?_, ownsRow_cast hown' (by simp) (by rw [bvs_append _ [c], bvs_one]), (hbr.alloc hsz _).grown hgrow (by simp; omega) (fun k hk => (howr.lt k hk).1)⟩
         rw [← HD.out, encNum_big hbig, HC.out]; simp
       case measure => simp [intOf]; omega
end Go.Proofs.Ytpdoiodgdhlecaa
