/-
  The walk of code.Writer.Stamps.
-/
import Derived.Test.YtoaboehmjfnceaaWriter
import Derived.Test.YtoaboehmjfnceaaOp
namespace Go.Proofs.Ytoaboehmjfnceaa
open Go.RowKit

def stampRow (ss : List (Int × Int)) : List Value := ss.flatMap fun s => [.int .i64 s.1, .int .i64 s.2]
theorem stampRow_len (ss : List (Int × Int)) : (stampRow ss).length = 2 * ss.length := by
  induction ss with
  | nil => rfl
  | cons s ss ih => simp only [stampRow, List.flatMap_cons, List.length_append, List.length_cons, List.length_nil] at ih ⊢; omega
theorem stampRow_get : ∀ (ss : List (Int × Int)) (k : Nat) (h : k < ss.length), (stampRow ss)[2 * k]? = some (.int .i64 ss[k].1) ∧ (stampRow ss)[2 * k + 1]? = some (.int .i64 ss[k].2)
  | s :: ss, 0, _ => ⟨rfl, rfl⟩
  | s :: ss, k + 1, h => by
    have := stampRow_get ss k (by simpa using h)
    have e : stampRow (s :: ss) = .int .i64 s.1 :: .int .i64 s.2 :: stampRow ss := rfl
    rw [e, show 2 * (k + 1) = 2 * k + 1 + 1 by omega]
    simpa using this
/-- The bytes of stamps. -/
def encStamps (ss : List (Int × Int)) : List UInt8 := ss.flatMap fun s => encNum (clampN s.1) ++ encNum (clampN s.2)
theorem encStamps_take (ss : List (Int × Int)) (k : Nat) (h : k < ss.length) : encStamps (ss.take (k + 1)) = encStamps (ss.take k) ++ (encNum (clampN ss[k].1) ++ encNum (clampN ss[k].2)) := by
  unfold encStamps
  rw [List.take_succ_eq_append_getElem h, List.flatMap_append]
  congr 1
  simp only [List.flatMap_cons, List.flatMap_nil, List.append_nil]
theorem encStamps_len (ss : List (Int × Int)) : (encStamps ss).length ≤ 18 * ss.length := by
  induction ss with
  | nil => simp [encStamps]
  | cons s ss ih =>
    have h1 := encNum_le9 (clampN_le s.1)
    have h2 := encNum_le9 (clampN_le s.2)
    simp only [encStamps, List.flatMap_cons, List.length_append, List.length_cons] at ih ⊢
    omega
theorem encStamps_take_len (ss : List (Int × Int)) (k : Nat) (h : k ≤ ss.length) : (encStamps (ss.take k)).length ≤ 18 * k := by
  have := encStamps_len (ss.take k)
  rw [List.length_take, Nat.min_eq_left h] at this
  exact this

set_option maxRecDepth 100000 in
set_option maxHeartbeats 1000000 in
theorem stamps_any (B R g : Nat) (bs : List UInt8) (ss : List (Int × Int)) (cap : Nat) (w : World) (h : Wrote B R bs w) (hg : w.heap[g]? = some (.cells (stampRow ss).toArray 23 (0, 0))) (hgR : g ≠ R) (hB : B ≤ w.heap.size) (hl : bs.length + 18 * ss.length ≤ 140737488355000) :
    Calls Try.prog 46 #[.pointer (some ⟨R, 0, none⟩), .slice (some ⟨g, 0, none⟩) ss.length cap] w fun e w' => e = .returned (.tuple #[]) ∧ Wrote B R (bs ++ encStamps ss) w' ∧ Kept B R w w' := by
  obtain ⟨n, hn⟩ : ∃ n, n = ss.length := ⟨_, rfl⟩
  rw [← hn]
  have h0 : Hid (Wrote B R (bs ++ encStamps (ss.take 0)) w) := Lib.hid (by simpa [encStamps] using h)
  have HN := Lib.hid hn
  have HG := Lib.hid hg
  have hl' : bs.length + 18 * n ≤ 140737488355000 := by omega
  clear hn h hg hl
  go_enter Try.func46, Try.ntmps46
  go_wp2_with fail
  go_loopw [5, 8] (fun _ s8 wr => ∃ k : Nat, k ≤ n ∧ s8 = .int .i64 (k : Int) ∧ Hid (Wrote B R (bs ++ encStamps (ss.take k)) wr) ∧ Hid (Kept B R w wr)) (fun _ s8 _ => n - (intOf s8).toNat)
  case atStart => exact ⟨0, Nat.zero_le _, rfl, h0, Lib.hid (Kept.refl _ _ _)⟩
  case round =>
    obtain ⟨k, hk, rfl, hw, hkp⟩ := hrel
    clear h0
    by_cases hlt : k < n
    · have hkz : k < ss.length := by rw [← HN.out]; exact hlt
      obtain ⟨t, ht⟩ : ∃ t, t = ss[k].1 := ⟨_, rfl⟩
      obtain ⟨r, hr⟩ : ∃ r, r = ss[k].2 := ⟨_, rfl⟩
      have hgr := hkp.out.other g _ _ HG.out hgR (by decide)
      have hc1 : wr.cell? ⟨g, k * 2, none⟩ = some (.int .i64 t) := by
        rw [cell_of_block hgr, ht, Nat.mul_comm]
        simpa using (stampRow_get ss k hkz).1
      have hc2 : wr.cell? ⟨g, k * 2 + 1, none⟩ = some (.int .i64 r) := by
        rw [cell_of_block hgr, hr, Nat.mul_comm]
        simpa using (stampRow_get ss k hkz).2
      have hst := encStamps_take ss k hkz
      rw [← ht, ← hr] at hst
      have hlk := encStamps_take_len ss k (by omega)
      have HST := Lib.hid hst
      have hBr : B ≤ wr.heap.size := Nat.le_trans hB hkp.out.below.size
      clear hgr ht hr hst
      have hwa : Below wr.heap.size wr ((wr.alloc (.cells #[.int .i64 t, .int .i64 r] 23)).alloc (.cells #[.int .i64 t, .int .i64 r] 2)) := ((Below.refl _ wr).alloc (Nat.le_refl _) _).alloc (by simp) _
      have hnb : ((wr.alloc (.cells #[.int .i64 t, .int .i64 r] 23)).alloc (.cells #[.int .i64 t, .int .i64 r] 2)).heap[wr.heap.size + 1]? = some (.cells (([t, r] : List Int).map (Value.int .i64)).toArray 2 (0, 0)) := by rw [heap_alloc_eq _ _ _ (by simp)]; rfl
      have hRlt := hw.out.lt
      have hnum := nums_any B R (wr.heap.size + 1) (bs ++ encStamps (ss.take k)) [t, r] _ (hw.out.later hwa) hnb (by omega) (by simp; omega) (by rw [List.length_append]; simp; omega)
      have HNM := Lib.hid hnum
      clear hnb hnum
      go_wp2_with fail
      refine HNM.out.mono ?_
      rintro e w2 ⟨rfl, hw2, hk2⟩
      have HW2 := Lib.hid hw2
      have HK2 := Lib.hid (hkp.out.trans ((Kept.of hBr hwa).trans hk2))
      clear hw2 hk2 hwa
      go_wp2_with fail
      go_roundw
      case rel => exact ⟨k + 1, by omega, by go_num, Lib.hid (by rw [HST.out, ← List.append_assoc]; have := HW2.out; simpa [encNums] using this), HK2⟩
      case measure => simp [intOf]; omega
    · go_wp2
      go_end0
      have hkn : k = ss.length := by rw [← HN.out]; omega
      have := hw.out
      rw [hkn, List.take_of_length_le (Nat.le_refl _)] at this
      exact ⟨rfl, this, hkp.out⟩
end Go.Proofs.Ytoaboehmjfnceaa
