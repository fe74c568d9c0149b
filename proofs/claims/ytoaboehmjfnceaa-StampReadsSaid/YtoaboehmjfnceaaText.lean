/-
  The walk of enc.Text.
-/
import Derived.Test.YtoaboehmjfnceaaNum
import Derived.Lib.AppendStr
namespace Go.Proofs.Ytoaboehmjfnceaa
open Go.RowKit

set_option maxRecDepth 100000 in
set_option maxHeartbeats 400000 in
theorem text_any (a : Option Addr) (l : List UInt8) (cap : Nat) (s : ByteArray) (w : World) (hb : BytesAt w a l) (hl : l.length + s.size ≤ 140737488355300) :
    Calls Try.prog 74 #[.slice a l.length cap, .string s] w fun e w' => ∃ v, e = .returned v ∧ w'.ownsRow w.heap.size 5 1 v (l ++ encText s).length (bvs (l ++ encText s)) ∧ Below w.heap.size w w' := by
  obtain ⟨i0, hi, hz0, hz1, hz2⟩ := info_parts infoByte
  go_enter Try.func74, Try.ntmps74
  go_wp2_with fail
  refine (num_any none [] 0 _ w (BytesAt.nil _ _) (by simp)).mono ?_
  rw [clampN_nat _ (by omega), List.nil_append]
  rintro e w1 ⟨v, rfl, hown, hbel⟩
  obtain ⟨E, hE⟩ : ∃ E, E = encNum s.size := ⟨_, rfl⟩
  have hE9 : E.length ≤ 9 := by rw [hE]; exact encNum_le9 (by omega)
  have hE1 : 1 ≤ E.length := by rw [hE]; exact encNum_pos _
  rw [← hE] at hown
  have HE := Lib.hid hE
  clear hE
  obtain ⟨a1, c1, hv, hb1, _, _, _⟩ := BytesAt.row hown
  obtain ⟨b1, o1, ha1⟩ := hb1.addr hE1
  subst ha1
  rw [hv]
  rw [hv] at hown
  clear hv
  go_wp2_with fail
  refine (cloned_int a l cap _ w1 (hb.later hbel) (by omega) (by omega)).mono ?_
  rintro e w2 ⟨v2, rfl, hown2, hbel2⟩
  obtain ⟨ad, had, hsrc⟩ := (hb1.later hbel2).src (by rw [bvs_length]; omega)
  obtain rfl : ad = ⟨b1, o1, none⟩ := by simpa using had.symm
  have hs2 := hbel2.size
  have hs1 := hbel.size
  go_wp2_with (at_builtin; refine wpList_append_own _ rfl (.tmp 16) (.tmp 17) 36 rfl w.heap.size 5 i0 (.int .u8 0) 1 1 Try.underlying36 hi hz0 hz1 hz2 rfl (by decide) _ _ _ rfl (ownsRow_mono hown2 hs1) ⟨b1, o1, none⟩ E.length _ (bvs E) rfl (by rw [bvs_length, Nat.mul_one]) hsrc (bvs_oneCell E) (by unfold maxLen; omega) (by omega) (by omega) ?_)
  intro v3 w3 hown3 hgrow3 _
  have hb3 : Below w.heap.size w w3 := (hbel.trans (hbel2.mono hs1)).grown hgrow3 (by omega) (fun k hk => by have := (hown2.lt k hk).1; omega)
  have hs3 := hb3.size
  clear hown2 hown hsrc hgrow3
  go_wp2_with (at_builtin; refine Lib.wpList_append_own_string _ rfl (.tmp 19) (.tmp 20) 36 9 rfl w.heap.size 5 i0 Try.underlying36 Try.underlying9 hi hz0 hz1 hz2 _ _ _ rfl hown3 s rfl (by unfold maxLen; omega) (by omega) (by omega) ?_)
  intro v4 w4 hown4 hgrow4 _
  go_wp2
  go_ret
  have he : encText s = E ++ s.data.toList := by unfold encText; rw [HE.out]
  refine ⟨_, rfl, ownsRow_cast hown4 (by rw [he]; simp; omega) ?_, hb3.grown hgrow4 (by omega) (fun k hk => (hown3.lt k hk).1)⟩
  rw [he, bvs_append, bvs_append]
  simp [Lib.strCells, bvs, bv]
end Go.Proofs.Ytoaboehmjfnceaa
