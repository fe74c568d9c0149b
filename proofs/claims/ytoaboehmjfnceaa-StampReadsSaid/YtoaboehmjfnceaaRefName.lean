/-
  The reference's Cmp, Right, Name.
-/
import Derived.Test.YtoaboehmjfnceaaNameAny
namespace Go.Proofs.Ytoaboehmjfnceaa
open Go.RowKit

theorem cmpS_cases (t r u s : Int) : (t < u ∧ Hid (cmpS t r u s = -1)) ∨ (t = u ∧ r < s ∧ Hid (cmpS t r u s = -1)) ∨ (t = u ∧ r = s ∧ Hid (cmpS t r u s = 0)) ∨ (t = u ∧ ¬ r < s ∧ ((r : Int) == s) = false ∧ Hid (cmpS t r u s = 1)) ∨ (¬ t < u ∧ ((t : Int) == u) = false ∧ Hid (cmpS t r u s = 1)) := by
  have he : ∀ x y : Int, x ≠ y → (x == y) = false := fun x y h => beq_eq_false_iff_ne.2 h
  have h1 : t < u → cmpS t r u s = -1 := fun h => by
    unfold cmpS cmpI
    repeat' split
    all_goals omega
  have h2 : t = u → r < s → cmpS t r u s = -1 := fun h k => by
    unfold cmpS cmpI
    repeat' split
    all_goals omega
  have h3 : t = u → s < r → cmpS t r u s = 1 := fun h k => by
    unfold cmpS cmpI
    repeat' split
    all_goals omega
  have h4 : u < t → cmpS t r u s = 1 := fun h => by
    unfold cmpS cmpI
    repeat' split
    all_goals omega
  by_cases k1 : t < u
  · exact .inl ⟨k1, Lib.hid (h1 k1)⟩
  · by_cases k2 : t = u
    · by_cases k3 : r < s
      · exact .inr (.inl ⟨k2, k3, Lib.hid (h2 k2 k3)⟩)
      · by_cases k4 : r = s
        · exact .inr (.inr (.inl ⟨k2, k4, Lib.hid ((cmpS_zero t r u s).2 ⟨k2, k4⟩)⟩))
        · exact .inr (.inr (.inr (.inl ⟨k2, k3, he _ _ k4, Lib.hid (h3 k2 (by omega))⟩)))
    · exact .inr (.inr (.inr (.inr ⟨k1, he _ _ k2, Lib.hid (h4 (by omega))⟩)))

set_option maxRecDepth 100000 in
set_option maxHeartbeats 1000000 in
theorem refcmp_any (t r u s : Int) (w : World) : Calls Try.prog 13 #[.agg (stampCells t r), .agg (stampCells u s)] w fun e w' => e = .returned (.int .i64 (cmpS t r u s)) ∧ Below w.heap.size w w' := by
  have hb1 : Below w.heap.size w ((w.alloc (.cells (stampCells t r) 23)).alloc (.cells (stampCells u s) 23)) := ((Below.refl _ w).alloc (Nat.le_refl _) _).alloc (by simp) _
  have hcase := cmpS_cases t r u s
  unfold stampCells at hb1 ⊢
  rcases hcase with ⟨h1, H⟩ | ⟨rfl, h2, H⟩ | ⟨rfl, rfl, H⟩ | ⟨rfl, h2, h3, H⟩ | ⟨h1, h2, H⟩
  all_goals
    rw [H.out]
    go_enter Try.func13, Try.ntmps13
    go_wp2_with fail
    go_ret
    exact ⟨rfl, hb1⟩

set_option maxRecDepth 100000 in
set_option maxHeartbeats 1000000 in
theorem refright_any (t r : Int) (w : World) : Calls Try.prog 15 #[.agg (stampCells t r)] w fun e w' => e = .returned (.bool (rightB t r)) ∧ Below w.heap.size w w' := by
  have hb1 : Below w.heap.size w (w.alloc (.cells (stampCells t r) 23)) := (Below.refl _ w).alloc (Nat.le_refl _) _
  have hcase : (¬ 0 < t ∧ Hid (rightB t r = false)) ∨ (0 < t ∧ ¬ t ≤ 1099511627776 ∧ Hid (rightB t r = false)) ∨ (0 < t ∧ t ≤ 1099511627776 ∧ ¬ 0 < r ∧ Hid (rightB t r = false)) ∨ (0 < t ∧ t ≤ 1099511627776 ∧ 0 < r ∧ ¬ r ≤ 65536 ∧ Hid (rightB t r = false)) ∨ (0 < t ∧ t ≤ 1099511627776 ∧ 0 < r ∧ r ≤ 65536 ∧ Hid (rightB t r = true)) := by
    have hf : ¬ (1 ≤ t ∧ t ≤ 1099511627776 ∧ 1 ≤ r ∧ r ≤ 65536) → rightB t r = false := fun h => by
      rw [← Bool.not_eq_true]; exact fun h2 => h ((rightB_iff t r).1 h2)
    by_cases h1 : 0 < t
    · by_cases h2 : t ≤ 1099511627776
      · by_cases h3 : 0 < r
        · by_cases h4 : r ≤ 65536
          · exact .inr (.inr (.inr (.inr ⟨h1, h2, h3, h4, Lib.hid ((rightB_iff t r).2 ⟨by omega, h2, by omega, h4⟩)⟩)))
          · exact .inr (.inr (.inr (.inl ⟨h1, h2, h3, h4, Lib.hid (hf fun h => h4 h.2.2.2)⟩)))
        · exact .inr (.inr (.inl ⟨h1, h2, h3, Lib.hid (hf fun h => by omega)⟩))
      · exact .inr (.inl ⟨h1, h2, Lib.hid (hf fun h => h2 h.2.1)⟩)
    · exact .inl ⟨h1, Lib.hid (hf fun h => by omega)⟩
  unfold stampCells at hb1 ⊢
  rcases hcase with ⟨h1, H⟩ | ⟨h1, h2, H⟩ | ⟨h1, h2, h3, H⟩ | ⟨h1, h2, h3, h4, H⟩ | ⟨h1, h2, h3, h4, H⟩
  all_goals
    rw [H.out]
    go_enter Try.func15, Try.ntmps15
    go_wp2_with fail
    go_ret
    exact ⟨rfl, hb1⟩

theorem bad_mem (b : UInt8) : badBytes.data.toList.contains b = true ↔ b = 0 ∨ b = 47 ∨ b = 10 := by
  have e : badBytes.data.toList = [0, 47, 10] := rfl
  rw [e]
  simp

set_option maxRecDepth 100000 in
set_option maxHeartbeats 1000000 in
theorem refname_any (s : ByteArray) (w : World) (hm : s.size ≤ maxLen) :
    Calls Try.prog 17 #[.string s] w fun e w' => e = .returned (.bool (nameV s (badB s))) ∧ Below w.heap.size w w' := by
  unfold maxLen at hm
  obtain ⟨nv, hnv⟩ : ∃ nv, nv = nameV s (badB s) := ⟨_, rfl⟩
  have hfalse : badB s = true → nv = false := fun h => by rw [hnv, h]; unfold nameV; simp
  have hcase : badB s = false → (s.toList.isEmpty = true ∧ nv = false) ∨ (s.toList.isEmpty = false ∧ ¬ s.size ≤ 60 ∧ nv = false) ∨ (s.toList.isEmpty = false ∧ s.size ≤ 60 ∧ (s.toList == [46]) = true ∧ nv = false) ∨ (s.toList.isEmpty = false ∧ s.size ≤ 60 ∧ (s.toList == [46]) = false ∧ (s.toList == [46, 46]) = true ∧ nv = false) ∨ (s.toList.isEmpty = false ∧ s.size ≤ 60 ∧ (s.toList == [46]) = false ∧ (s.toList == [46, 46]) = false ∧ nv = true) := by
    intro hb
    have hz : s.toList.isEmpty = decide (s.size = 0) := by
      rw [Lib.toList_data, Lib.size_eq]
      cases s.data.toList <;> simp
    rw [hnv, hb, hz]
    unfold nameV
    by_cases h1 : s.size = 0
    · exact .inl ⟨by simp [h1], by simp [h1]⟩
    · have h1' : 1 ≤ s.size := by omega
      by_cases h2 : s.size ≤ 60
      · cases h3 : (s.toList == [46])
        · cases h4 : (s.toList == [46, 46])
          · exact .inr (.inr (.inr (.inr ⟨by simp [h1], h2, rfl, rfl, by simp [h1', h2]⟩)))
          · exact .inr (.inr (.inr (.inl ⟨by simp [h1], h2, rfl, rfl, by simp⟩)))
        · exact .inr (.inr (.inl ⟨by simp [h1], h2, rfl, by simp⟩))
      · exact .inr (.inl ⟨by simp [h1], h2, by simp [h2]⟩)
  rw [← hnv]
  have HF := Lib.hid hfalse
  have HC := Lib.hid hcase
  clear hfalse hcase hnv
  go_enter Try.func17, Try.ntmps17
  go_wp2_with fail
  go_loop [3] (fun s3 => ∃ i : Nat, i ≤ s.size ∧ s3 = .int .i64 (i : Int) ∧ Hid (Lib.NoAny s.data.toList badBytes.data.toList i)) (fun s3 => s.size - (intOf s3).toNat)
  case atStart => exact ⟨0, Nat.zero_le _, rfl, Lib.hid (Lib.NoAny.zero _ _)⟩
  case round =>
    obtain ⟨i, his, rfl, hno⟩ := hrel
    by_cases hi : i < s.size
    · obtain ⟨x, hx⟩ : ∃ x : UInt8, s[i]'hi = x := ⟨_, rfl⟩
      have hxl : s.data.toList[i]? = some x := by rw [← hx]; exact Lib.data_getElem? s i hi
      have hbx : badBytes.data.toList.contains x = true → Hid (nv = false) := fun h => Lib.hid (HF.out (by
        show Lib.containsAny _ _ = true
        unfold Lib.containsAny
        rw [Lib.indexAny_hit hno.out hxl h]
        exact decide_eq_true (by omega)))
      have hx4 : (x = 0 ∧ Hid (nv = false)) ∨ (((x.toNat : Int) == 0) = false ∧ x = 47 ∧ Hid (nv = false)) ∨ (((x.toNat : Int) == 0) = false ∧ ((x.toNat : Int) == 47) = false ∧ x = 10 ∧ Hid (nv = false)) ∨ (((x.toNat : Int) == 0) = false ∧ ((x.toNat : Int) == 47) = false ∧ ((x.toNat : Int) == 10) = false ∧ Hid (Lib.NoAny s.data.toList badBytes.data.toList (i + 1))) := by
        have hn : ∀ b : UInt8, x ≠ b → ((x.toNat : Int) == (b.toNat : Int)) = false := fun b h => beq_eq_false_iff_ne.2 fun h' => h (UInt8.toNat_inj.1 (by omega))
        by_cases k0 : x = 0
        · exact .inl ⟨k0, hbx ((bad_mem x).2 (.inl k0))⟩
        · by_cases k1 : x = 47
          · exact .inr (.inl ⟨hn 0 k0, k1, hbx ((bad_mem x).2 (.inr (.inl k1)))⟩)
          · by_cases k2 : x = 10
            · exact .inr (.inr (.inl ⟨hn 0 k0, hn 47 k1, k2, hbx ((bad_mem x).2 (.inr (.inr k2)))⟩))
            · exact .inr (.inr (.inr ⟨hn 0 k0, hn 47 k1, hn 10 k2, Lib.hid (hno.out.succ hxl (by rw [← Bool.not_eq_true, bad_mem]; simp [k0, k1, k2]))⟩))
      clear hbx hxl hno
      rcases hx4 with ⟨rfl, HN⟩ | ⟨h1, rfl, HN⟩ | ⟨h1, h2, rfl, HN⟩ | ⟨h1, h2, h3, HN⟩
      · go_wp2_with fail
        go_ret
        exact ⟨by rw [HN.out]; rfl, Below.refl _ _⟩
      · go_wp2_with fail
        go_ret
        exact ⟨by rw [HN.out]; rfl, Below.refl _ _⟩
      · go_wp2_with fail
        go_ret
        exact ⟨by rw [HN.out]; rfl, Below.refl _ _⟩
      · go_wp2_with fail
        go_round
        case rel => exact ⟨i + 1, by omega, by go_num, HN⟩
        case measure => simp [intOf]; omega
    · obtain rfl : i = s.size := by omega
      have hbf : badB s = false := by
        show Lib.containsAny _ _ = false
        unfold Lib.containsAny
        rw [Lib.indexAny_none (by rw [← Lib.size_eq]; exact hno.out)]
        rfl
      have hc := HC.out hbf
      clear hno hbf
      rcases hc with ⟨h1, rfl⟩ | ⟨h1, h2, rfl⟩ | ⟨h1, h2, h3, rfl⟩ | ⟨h1, h2, h3, h4, rfl⟩ | ⟨h1, h2, h3, h4, rfl⟩
      all_goals
        go_wp2_with fail
        go_ret
        exact ⟨rfl, Below.refl _ _⟩
end Go.Proofs.Ytoaboehmjfnceaa
