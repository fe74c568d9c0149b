/-
  The walks of pollardref02.Text and Id.
-/
import Derived.Test.YtoaboehmjfnceaaJoin
import Derived.Test.YtoaboehmjfnceaaReadPost
import Derived.Laws.IdiomStrings
namespace Go.Proofs.Ytoaboehmjfnceaa
open Go.RowKit

theorem refnum_read (n : Int) (w : World) : Calls Try.prog 49 #[.int .i64 n] w (ReadPost w (encNum (clampN n))) :=
  (refnum_any n w).mono fun _ _ h => readPost_of h
theorem join_read (a b : Option Addr) (l m : List UInt8) (c d : Nat) (w : World) (ha : BytesAt w a l) (hb : BytesAt w b m) (hl : l.length + m.length ≤ 140737488355328) :
    Calls Try.prog 24 #[.slice a l.length c, .slice b m.length d] w (ReadPost w (l ++ m)) :=
  (join_any a b l m c d w ha hb hl).mono fun _ _ h => readPost_of h

theorem bytesRow_take (s : ByteArray) (c : Nat) : (bytesRow s c).toList.take s.data.toList.length = bvs s.data.toList := by
  simp [bytesRow, bvs, bv]
set_option maxRecDepth 100000 in
set_option maxHeartbeats 1000000 in
theorem reftext_any (s : ByteArray) (w : World) (hs : s.size ≤ 140737488355300) : Calls Try.prog 51 #[.string s] w (ReadPost w (encText s)) := by
  obtain ⟨L, hL⟩ : ∃ L, L = s.data.toList := ⟨_, rfl⟩
  have hLs : s.size = L.length := by rw [hL, Array.length_toList]; rfl
  have kc : ∀ w' : World, (convert 9 36 (.string s)).run Try.prog w' = .ok (.slice (some ⟨w'.heap.size, 0, none⟩) L.length (grownCap w' s.size 0 5)) (w'.drew.alloc (.cells (bytesRow s (grownCap w' s.size 0 5)) 5 ((bytesRow s (grownCap w' s.size 0 5)).size, (bytesRow s (grownCap w' s.size 0 5)).size + 1))) := by
    intro w'
    rw [← hLs]
    exact run_bytes_of_string w' _ _ _ s Try.underlying9 Try.underlying36 Try.underlying5
  have hmk : ∀ (w' : World) (c : Nat), BytesAt (w'.drew.alloc (.cells (bytesRow s c) 5 ((bytesRow s c).size, (bytesRow s c).size + 1))) (some ⟨w'.heap.size, 0, none⟩) L := by
    intro w' c
    rw [hL]
    exact BytesAt.alloc_mark w'.drew _ _ _ _ (bytesRow_take s c)
  have hE9 : (encNum s.size).length ≤ 9 := encNum_le9 (by omega)
  have HL := Lib.hid hL
  have HLS := Lib.hid hLs
  have HMK := Lib.hid hmk
  clear hL hLs hmk
  go_enter Try.func51, Try.ntmps51
  go_wp2_with fail
  refine (refnum_read _ _).mono ?_
  rw [clampN_nat _ (by omega)]
  rintro e w1 ⟨a, c, rfl, hB, hb1, _⟩
  go_wp2_with fail
  refine (join_read _ _ (encNum s.size) L _ _ _ (hB.later ((Below.refl _ _).drew.alloc (Nat.le_refl _) _)) (HMK.out w1 _) ?_).mono ?_
  · have := HLS.out; omega
  rintro e w2 ⟨a2, c2, rfl, hB2, hb2, h2⟩
  go_wp2_with fail
  go_ret
  have he : encText s = encNum s.size ++ L := by unfold encText; rw [HL.out]
  have hb3 : Below w.heap.size w (w1.drew.alloc (.cells (bytesRow s (grownCap w1 s.size 0 5)) 5 ((bytesRow s (grownCap w1 s.size 0 5)).size, (bytesRow s (grownCap w1 s.size 0 5)).size + 1))) := hb1.drew.alloc hb1.size _
  exact ⟨a2, c2, by rw [he, List.length_append]; rfl, by rw [he]; exact hB2, hb3.trans (hb2.mono hb3.size), by rw [he]; exact h2⟩

set_option maxRecDepth 100000 in
set_option maxHeartbeats 1000000 in
theorem refid_any (i : List UInt8) (w : World) (hi32 : i.length = 32) : Calls Try.prog 52 #[.agg (bvs i).toArray] w (ReadPost w i) := by
  obtain ⟨i0, hi, hz0, hz1, hz2⟩ := info_parts infoByte
  obtain ⟨X, hX⟩ : ∃ X, X = (bvs i).toArray := ⟨_, rfl⟩
  rw [← hX]
  obtain ⟨w0, hw0⟩ : ∃ w0, w0 = w.alloc (.cells X 29) := ⟨_, rfl⟩
  have hb0 : Below w.heap.size w w0 := by rw [hw0]; exact (Below.refl _ w).alloc (Nat.le_refl _) _
  have hB0 : BytesAt w0 (some ⟨w.heap.size, 0, none⟩) i := by rw [hw0, hX]; exact BytesAt.alloc_new _ _ _ _ (by rw [hi32]; simp [List.take_of_length_le, bvs_length, hi32])
  have hs0 : w0.heap.size = w.heap.size + 1 := by rw [hw0]; simp
  have hown0 := ownsRow_empty w0 5
  have hbel0 : Below w0.heap.size w0 (w0.alloc (.cells #[] 5)) := (Below.refl _ w0).alloc (Nat.le_refl _) _
  have HS0 := Lib.hid hs0
  have HX := Lib.hid hX
  have H32 := Lib.hid hi32
  clear hX hs0 hi32
  go_enter Try.func52, Try.ntmps52
  go_upto_region 1 with (fail)
  rw [← hw0]
  clear hw0
  go_wp2_with fail
  go_loopw [3, 4] (fun s3 s4 wr => ∃ k : Nat, k ≤ 32 ∧ s4 = .int .i64 (k : Int) ∧ wr.ownsRow w0.heap.size 5 1 s3 k (bvs (i.take k)) ∧ Below w0.heap.size w0 wr) (fun _ s4 _ => 32 - (intOf s4).toNat)
  case atStart => exact ⟨0, Nat.zero_le _, rfl, hown0, hbel0⟩
  case round =>
    obtain ⟨k, hk, rfl, howr, hbr⟩ := hrel
    clear hown0 hbel0
    have hsz := hbr.size
    by_cases hlt : k < 32
    · have hki : k < i.length := by rw [H32.out]; exact hlt
      have hc1 := (hB0.later hbr).at k hki
      obtain ⟨x, hx⟩ : ∃ x, x = i[k] := ⟨_, rfl⟩
      have hts : i.take (k + 1) = i.take k ++ [x] := by rw [hx]; exact List.take_succ_eq_append_getElem hki
      rw [← hx] at hc1
      have HTS := Lib.hid hts
      clear hx hts hB0
      rw [Nat.zero_add] at hc1
      go_wp2_with (at_builtin; refine wpList_append_own _ rfl (.tmp 10) (.tmp 14) 36 rfl w0.heap.size 5 i0 (.int .u8 0) 1 1 Try.underlying36 hi hz0 hz1 hz2 rfl (by decide) _ _ _ rfl (howr.alloc _) ⟨wr.heap.size, 0, none⟩ 1 1 [.int .u8 (x.toNat : Int)] rfl rfl ?c1 ?c2 ?c3 ?c4 ?c5 ?_)
      case c1 => exact cell_one_new _ _ _
      case c2 => exact bv_oneCell x
      case c3 => unfold maxLen; omega
      case c4 => omega
      case c5 => simp; omega
      intro v' w2 hown' hgrow _
      go_wp2
      go_roundw
      case rel => exact ⟨k + 1, by omega, by go_num, ownsRow_cast hown' rfl (by rw [HTS.out, bvs_append, bvs_one]), (hbr.alloc hsz _).grown hgrow (by simp; omega) (fun k hk => (howr.lt k hk).1)⟩
      case measure => simp [intOf]; omega
    · have hk' : k = 32 := by omega
      subst hk'
      have ht : i.take 32 = i := List.take_of_length_le (by rw [H32.out]; omega)
      rw [ht] at howr
      clear ht
      go_wp2
      go_ret
      have h1 := HS0.out
      refine readPost_of ⟨_, rfl, ownsRow_cast (ownsRow_mono howr (by omega)) H32.out.symm rfl, hb0.trans (hbr.mono (by omega))⟩
end Go.Proofs.Ytoaboehmjfnceaa
