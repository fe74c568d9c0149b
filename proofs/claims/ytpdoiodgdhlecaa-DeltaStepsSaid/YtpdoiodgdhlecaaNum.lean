/-
  The walks of enc.cloned and enc.Num.
-/
import Derived.Test.YtpdoiodgdhlecaaNumMath
import Derived.Laws.CopyOwn
import Derived.Lib.Hide
import Derived.Deep.DeepCutAuto
import Derived.Laws.BitsAllLaws
namespace Go.Proofs.Ytpdoiodgdhlecaa
open Go.RowKit

theorem infoByte : (Try.prog.info? 5).map (fun i => (i.zero, i.size, i.bytes)) = some (some (.int .u8 0), 1, 1) := by kernel_rfl
theorem sizeByte : (Try.prog.info? 5).map (·.size) = some 1 := by kernel_rfl
/-- New bytes: all 0. -/
def zeros (n : Nat) : List Value := List.replicate n (.int .u8 0)
theorem zeros_length (n : Nat) : (zeros n).length = n := by simp [zeros]
theorem run_make_bytes (w : World) (n m : Nat) (h : n + m ≤ 281474976710656) :
    (Instr.makeSlice 22 (.int .i64 (n : Int)) (.int .i64 ((n : Int) + (m : Int)))).run Try.prog w = .ok (.slice (some ⟨w.heap.size, 0, none⟩) n (n + m)) (w.alloc (.cells (zeros (n + m)).toArray 5)) := by
  obtain ⟨i0, hi, hz0, hz1, hz2⟩ := info_parts infoByte
  have hr := run_make (P := Try.prog) w 22 5 i0 _ Try.underlying22 hi hz0 .i64 .i64 (n : Int) ((n : Int) + (m : Int)) (by omega) (by omega) (by rw [hz2]; omega) (by omega)
  rw [hr, hz1]
  have e1 : ((n : Int) + (m : Int)).toNat = n + m := by omega
  rw [e1, Int.toNat_natCast, Nat.mul_one]
  have e2 : madeCells (Value.int .u8 0).cells (n + m) = (zeros (n + m)).toArray := by
    apply Array.toList_inj.1
    show (madeCells #[Value.int .u8 0] (n + m)).toList = _
    rw [toList_madeCells_one]
    rfl
  rw [e2]
theorem bvs_oneCell (l : List UInt8) : ∀ u ∈ bvs l, u.oneCell' = true := by
  intro u hu
  simp only [bvs, List.mem_map] at hu
  obtain ⟨c, _, rfl⟩ := hu
  rfl
theorem ownsRow_mono {w : World} {base base' : Nat} {e : TypeId} {size : Nat} {v : Value} {n : Nat} {xs : List Value} (h : w.ownsRow base e size v n xs) (hb : base' ≤ base) : w.ownsRow base' e size v n xs := by
  refine ⟨h.1, ?_⟩
  rcases h.2 with h0 | ⟨g, cap, cur, h1, h2, h3⟩
  · exact .inl h0
  · exact .inr ⟨g, cap, cur, h1, by omega, h3⟩
theorem ownsRow_empty (w : World) (e : TypeId) : (w.alloc (.cells #[] e)).ownsRow w.heap.size e 1 (.slice (some ⟨w.heap.size, 0, none⟩) 0 0) 0 [] :=
  World.ownsRow_made w #[] 0 (Nat.le_refl _) (by unfold maxLen; omega) rfl
theorem BytesAt.src {w : World} {a : Option Addr} {l : List UInt8} (h : BytesAt w a l) (hl : 0 < (bvs l).length) : ∃ ad, a = some ad ∧ ∀ j v, (bvs l)[j]? = some v → w.cell? (ad.add j) = some v := by
  rw [bvs_length] at hl
  obtain ⟨b, off, rfl⟩ := h.addr hl
  refine ⟨_, rfl, fun j v hj => ?_⟩
  have hj' : j < l.length := by
    have := (List.getElem?_eq_some_iff.1 hj).1
    rwa [bvs_length] at this
  rw [add_plain, h.at j hj']
  rw [bvs_get l j hj'] at hj
  exact hj

set_option maxHeartbeats 400000 in
theorem cloned_exact (a : Option Addr) (l : List UInt8) (cap m : Nat) (w : World) (hb : BytesAt w a l) (hl : l.length + m ≤ 281474976710656) :
    Calls Try.prog 43 #[.slice a l.length cap, .int .i64 m] w fun e w' => e = .returned (.slice (some ⟨w.heap.size, 0, none⟩) l.length (l.length + m)) ∧ w'.ownsRow w.heap.size 5 1 (.slice (some ⟨w.heap.size, 0, none⟩) l.length (l.length + m)) l.length (bvs l) ∧ Below w.heap.size w w' := by
  have hmk := run_make_bytes w l.length m hl
  obtain ⟨Z, hZ⟩ : ∃ Z, Z = zeros (l.length + m) := ⟨_, rfl⟩
  rw [← hZ] at hmk
  have hZl : Z.length = l.length + m := by rw [hZ, zeros_length]
  have HZ := Lib.hid hZ
  have HZl := Lib.hid hZl
  clear hZ hZl
  go_enter Try.func43, Try.ntmps43
  go_wp2_with (with_reducible refine wpList_copy_splice rfl (.tmp 13) (.tmp 14) 22 22 rfl 5 Try.underlying22 sizeByte _ _ _ _ _ _ rfl rfl w.heap.size 0 Z 5 ?hg (bvs l) ?hn ?hpos ?hfit (bvs_oneCell l) w.heap.size w ?hbl (Nat.le_refl _) ?_)
  case hg => exact heap_alloc_new w _
  case hn => rw [bvs_length]; simp
  case hpos =>
    intro h0
    obtain ⟨ad, ha, hs⟩ := (hb.later ((Below.refl _ w).alloc (Nat.le_refl _) (.cells Z.toArray 5))).src h0
    first | exact ⟨ad, ha, hs⟩ | exact ⟨rfl, ad, ha, hs⟩
  case hfit => rw [HZl.out, bvs_length]; omega
  case hbl => exact (Below.refl _ _).alloc (Nat.le_refl _) _
  intro w2 hg2 hb2
  go_wp2
  go_ret
  refine ⟨rfl, ⟨by rw [bvs_length, Nat.mul_one], .inr ⟨_, _, _, rfl, Nat.le_refl _, hg2.out, by omega, by unfold maxLen; omega, ?_, ?_⟩⟩, hb2⟩
  · rw [List.size_toArray, length_splice _ _ _ (by rw [HZl.out, bvs_length]; omega), HZl.out]; omega
  · simp [splice, bvs_length]

theorem cloned_any (a : Option Addr) (l : List UInt8) (cap m : Nat) (w : World) (hb : BytesAt w a l) (hl : l.length + m ≤ 281474976710656) :
    Calls Try.prog 43 #[.slice a l.length cap, .int .i64 m] w fun e w' => ∃ v, e = .returned v ∧ w'.ownsRow w.heap.size 5 1 v l.length (bvs l) ∧ Below w.heap.size w w' :=
  (cloned_exact a l cap m w hb hl).mono fun _ _ ⟨h1, h2, h3⟩ => ⟨_, h1, h2, h3⟩
theorem cloned_int (a : Option Addr) (l : List UInt8) (cap : Nat) (m : Int) (w : World) (hb : BytesAt w a l) (h0 : 0 ≤ m) (hl : (l.length : Int) + m ≤ 281474976710656) :
    Calls Try.prog 43 #[.slice a l.length cap, .int .i64 m] w fun e w' => ∃ v, e = .returned v ∧ w'.ownsRow w.heap.size 5 1 v l.length (bvs l) ∧ Below w.heap.size w w' := by
  obtain ⟨M, rfl⟩ := Int.eq_ofNat_of_zero_le h0
  exact cloned_any a l cap M w hb (by omega)

set_option maxRecDepth 100000 in
set_option maxHeartbeats 400000 in
theorem num_any (a : Option Addr) (l : List UInt8) (cap : Nat) (n : Int) (w : World) (hb : BytesAt w a l) (hl : l.length ≤ 140737488355300) :
    Calls Try.prog 33 #[.slice a l.length cap, .int .i64 n] w fun e w' => ∃ v, e = .returned v ∧ w'.ownsRow w.heap.size 5 1 v (l ++ encNum (clampN n)).length (bvs (l ++ encNum (clampN n))) ∧ Below w.heap.size w w' := by
  obtain ⟨i0, hi, hz0, hz1, hz2⟩ := info_parts infoByte
  have hn9 := encNum_le9 (clampN_le n)
  obtain ⟨N, hN⟩ : ∃ N, N = clampN n := ⟨_, rfl⟩
  have hNc : (N : Int) = clampI n := by rw [hN, clampN_cast]
  have hNb : Hid (N ≤ 4611686018427387904) := by rw [hN]; exact clampN_le n
  rw [← hN] at hn9 ⊢
  have HNc := Lib.hid hNc
  clear hN hNc
  go_enter Try.func33, Try.ntmps33
  go_wp2_with fail
  refine (cloned_any a l cap 9 w hb (by omega)).mono ?_
  rintro e w1 ⟨v, rfl, hown, hbel⟩
  go_upto_region 2 with (fail)
  go_cut [1] (fun s1 wx => s1 = .int .i64 (N : Int) ∧ w1 = wx)
  case first =>
    go_wp2_with fail
    all_goals go_meet
    all_goals (refine ⟨?_, rfl⟩; rw [HNc.out]; congr 1; unfold clampI; omega)
  obtain ⟨rfl, rfl⟩ := hcut
  go_wp2_with fail
  go_loopw [1, 5] (fun s1 s5 wr => ∃ (m : Nat) (done : List UInt8), m ≤ 4611686018427387904 ∧ s1 = .int .i64 m ∧ done ++ encNum m = encNum N ∧ wr.ownsRow w.heap.size 5 1 s5 (l ++ done).length (bvs (l ++ done)) ∧ Below w.heap.size w wr) (fun s1 _ _ => (intOf s1).toNat)
  case atStart => exact ⟨N, [], hNb.out, rfl, rfl, by simpa using hown, hbel⟩
  case round =>
    obtain ⟨m, done, hm, rfl, hdone, howr, hbr⟩ := hrel
    have HD := Lib.hid hdone
    have HM := Lib.hid hm
    clear hdone hm
    have hlen : done.length + (encNum m).length = (encNum N).length := by rw [← HD.out]; simp
    have HL := Lib.hid hlen
    clear hlen
    have hsz := hbr.size
    by_cases hbig : m < 128
    · obtain ⟨c, hc⟩ : ∃ c, c = UInt8.ofNat m := ⟨_, rfl⟩
      have e3 : (m : Int) = (c.toNat : Int) := by rw [hc, UInt8.toNat_ofNat', Nat.mod_eq_of_lt (by omega)]
      have E3 := Lib.hid e3
      have HC := Lib.hid hc
      clear e3 hc
      go_wp2_with (at_builtin; refine wpList_append_own _ rfl (.tmp 22) (.tmp 25) 22 rfl w.heap.size 5 i0 (.int .u8 0) 1 1 Try.underlying22 hi hz0 hz1 hz2 rfl (by decide) _ _ _ rfl (howr.alloc _) ⟨wr.heap.size, 0, none⟩ 1 1 [.int .u8 (m : Int)] rfl rfl ?c1 ?c2 ?c3 ?c4 ?c5 ?_)
      case c1 => exact cell_one_new _ _ _
      case c2 => intro u hu; simp at hu; subst hu; rfl
      case c3 => have := HL.out; unfold maxLen; simp; omega
      case c4 => have := HL.out; simp; omega
      case c5 => simp; omega
      intro v' w2 hown' hgrow _
      go_wp2
      go_ret
      refine ⟨_, rfl, ?_, (hbr.alloc hsz _).grown hgrow (by simp; omega) (fun k hk => (howr.lt k hk).1)⟩
      have h1 := HD.out
      rw [encNum_small hbig, ← HC.out] at h1
      refine ownsRow_cast hown' (by rw [← h1]; simp; omega) ?_
      rw [← h1, ← List.append_assoc, bvs_append _ [c], bvs_one, E3.out]
    · have e1 := and127 m (by have := HM.out; omega)
      obtain ⟨c, hc⟩ : ∃ c, c = UInt8.ofNat (m % 128 + 128) := ⟨_, rfl⟩
      have e2 : bits .or .u8 ((m : Int) % 128) 128 = (c.toNat : Int) := by rw [hc]; exact or128 (m % 128) (by omega)
      have HC := Lib.hid hc
      clear hc
      go_wp2_with (at_builtin; refine wpList_append_own _ rfl (.tmp 13) (.tmp 18) 22 rfl w.heap.size 5 i0 (.int .u8 0) 1 1 Try.underlying22 hi hz0 hz1 hz2 rfl (by decide) _ _ _ rfl (howr.alloc _) ⟨wr.heap.size, 0, none⟩ 1 1 [.int .u8 (c.toNat : Int)] rfl rfl ?d1 ?d2 ?d3 ?d4 ?d5 ?_)
      case d1 => exact cell_one_new _ _ _
      case d2 => exact bv_oneCell c
      case d3 => have := HL.out; unfold maxLen; simp; omega
      case d4 => have := HL.out; simp; omega
      case d5 => simp; omega
      intro v' w2 hown' hgrow _
      clear e1 e2
      go_wp2
      go_roundw
      case rel =>
        refine ⟨m / 128, done ++ [c], by have := HM.out; omega, by go_num, ?_, ownsRow_cast hown' (by simp; omega) ?_, (hbr.alloc hsz _).grown hgrow (by simp; omega) (fun k hk => (howr.lt k hk).1)⟩
        · rw [← HD.out, encNum_big hbig, HC.out]; simp
        · rw [← List.append_assoc, bvs_append _ [c], bvs_one]
      case measure => simp [intOf]; omega
end Go.Proofs.Ytpdoiodgdhlecaa
