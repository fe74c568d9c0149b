/-
  strings.IndexRune at the bytes that no name has, and a rune beyond ASCII.
-/
import Derived.Test.YtoaboehmjfnceaaName
import Derived.Laws.RangeString
import Derived.Laws.Strings3
import Derived.Deep.LoopGhost
import Derived.Lib.IndexBytes
import Derived.Scope
namespace Go.Proofs.Ytoaboehmjfnceaa
open Go.RowKit

theorem encode_shape (r : Int) (h : 128 ≤ r) : (∃ x0 x1 : UInt8, Utf8.encode r = ⟨#[x0, x1]⟩ ∧ 128 ≤ x1.toNat) ∨ (∃ x0 x1 x2 : UInt8, Utf8.encode r = ⟨#[x0, x1, x2]⟩ ∧ 128 ≤ x2.toNat) ∨ (∃ x0 x1 x2 x3 : UInt8, Utf8.encode r = ⟨#[x0, x1, x2, x3]⟩ ∧ 128 ≤ x3.toNat) := by
  have hb : ∀ n : Nat, 128 ≤ (UInt8.ofNat (128 + n % 64)).toNat := fun n => by
    rw [UInt8.toNat_ofNat']
    omega
  have hc : 128 ≤ (if Utf8.valid r = true then r.toNat else Utf8.runeError) := by
    split
    · omega
    · unfold Utf8.runeError; omega
  unfold Utf8.encode
  dsimp only
  generalize (if Utf8.valid r = true then r.toNat else Utf8.runeError) = c at hc
  rw [if_neg (by omega)]
  split
  · exact .inl ⟨_, _, rfl, hb _⟩
  · split
    · exact .inr (.inl ⟨_, _, _, rfl, hb _⟩)
    · exact .inr (.inr ⟨_, _, _, _, rfl, hb _⟩)

theorem encode_last (r : Int) (h : 128 ≤ r) : ∃ E, Utf8.encode r = E ∧ ((E.size = 2 ∧ ∀ h : 1 < E.size, 128 ≤ (E[1]'h).toNat) ∨ (E.size = 3 ∧ ∀ h : 2 < E.size, 128 ≤ (E[2]'h).toNat) ∨ E.size = 4) := by
  rcases encode_shape r h with ⟨x0, x1, e, hx⟩ | ⟨x0, x1, x2, e, hx⟩ | ⟨x0, x1, x2, x3, e, hx⟩
  · exact ⟨_, e, .inl ⟨rfl, fun _ => hx⟩⟩
  · exact ⟨_, e, .inr (.inl ⟨rfl, fun _ => hx⟩)⟩
  · exact ⟨_, e, .inr (.inr rfl)⟩

theorem indexByte_ten (x : UInt8) (hx : 128 ≤ x.toNat) : Lib.indexByte (badBytes.extract 2 3).data.toList ((x.toNat : Int)).toNat.toUInt8 = -1 := by
  have e : ((x.toNat : Int)).toNat.toUInt8 = x := by simp
  have e2 : (badBytes.extract 2 3).data.toList = [10] := by kernel_rfl
  have hne : (10 : UInt8) ≠ x := fun h => by rw [← h] at hx; exact absurd hx (by decide)
  rw [e, e2]
  have h1 := Lib.indexByte_ge [10] x
  rcases Int.lt_or_le (Lib.indexByte [10] x) 0 with h | h
  · omega
  · exfalso
    obtain ⟨o, ho⟩ : ∃ o : Nat, Lib.indexByte [10] x = (o : Int) := ⟨(Lib.indexByte [10] x).toNat, by omega⟩
    have h2 := (Lib.indexByte_some ho).1
    match o, h2 with
    | 0, h2 => simp at h2; exact hne h2
    | o + 1, h2 => simp at h2
theorem indexByte_empty (c : UInt8) : Lib.indexByte ByteArray.empty.data.toList c = -1 := by
  have h1 := Lib.indexByte_ge [] c
  rcases Int.lt_or_le (Lib.indexByte [] c) 0 with h | h
  · show Lib.indexByte [] c = -1
    omega
  · exfalso
    obtain ⟨o, ho⟩ : ∃ o : Nat, Lib.indexByte [] c = (o : Int) := ⟨(Lib.indexByte [] c).toNat, by omega⟩
    have h2 := (Lib.indexByte_some ho).1
    simp at h2

set_option maxRecDepth 100000 in
set_option maxHeartbeats 1000000 in
theorem indexRune_bad (r : Int) (h0 : 128 ≤ r) (h1 : r ≤ 1114111) (w : World) :
    Calls Try.prog 79 #[.string badBytes, .int .i32 r] w fun e w' => e = .returned (.int .i64 (-1)) ∧ Below w.heap.size w w' := by
  have hsz : badBytes.size = 3 := rfl
  by_cases hr : r = 65533
  · subst hr
    go_enter Try.func79, Try.ntmps79
    go_wp2_with fail
    go_loopg [5, 6] 3 (fun g _ _ wx => ∃ i : Nat, i + g = 3 ∧ wx = w.iter badBytes i)
    case atStart => exact ⟨0, by omega, rfl⟩
    case round =>
      obtain ⟨i, hig, rfl⟩ := hrel
      cases gk with
      | zero =>
        obtain rfl : i = 3 := by omega
        have hnx := fun ty => run_next_end (P := Try.prog) w badBytes 3 ty (by decide)
        go_wp2_with fail
        go_ret
        exact ⟨rfl, (Below.refl _ w).alloc (Nat.le_refl _) _⟩
      | succ g =>
        have hi : i < badBytes.size := by show i < 3; omega
        obtain ⟨x, hx⟩ : ∃ x : UInt8, badBytes[i]'hi = x := ⟨_, rfl⟩
        have hx128 : x.toNat < 128 := by
          have h3 : i = 0 ∨ i = 1 ∨ i = 2 := by omega
          rw [← hx]
          rcases h3 with rfl | rfl | rfl
          · exact (show (0 : UInt8).toNat < 128 by decide)
          · exact (show (47 : UInt8).toNat < 128 by decide)
          · exact (show (10 : UInt8).toNat < 128 by decide)
        have hnx := fun ty => run_next_ascii (P := Try.prog) w badBytes i ty hi (by rw [hx]; exact hx128)
        rw [hx] at hnx
        have hne : ((x.toNat : Int) == 65533) = false := beq_eq_false_iff_ne.2 (by omega)
        clear hx
        go_wp2_with fail
        go_roundg g
        case measure => omega
        case rel => exact ⟨i + 1, by omega, rfl⟩
  · have hrb : ((r : Int) == 65533) = false := beq_eq_false_iff_ne.2 hr
    cases hv : Lib.validRune r
    · go_enter Try.func79, Try.ntmps79
      go_wp2_with fail
      refine (Try.utf8_ValidRune r _).mono ?_
      rw [hv]
      rintro e w' ⟨rfl, rfl⟩
      go_wp2_with fail
      go_ret
      exact ⟨rfl, Below.refl _ _⟩
    · go_enter Try.func79, Try.ntmps79
      go_wp2_with fail
      refine (Try.utf8_ValidRune r _).mono ?_
      rw [hv]
      rintro e w' ⟨rfl, rfl⟩
      obtain ⟨E, hE, hs⟩ := encode_last r h0
      clear hv
      go_wp2_with fail
      rcases hs with ⟨hEs, h128⟩ | ⟨hEs, h128⟩ | hEs
      · have hEk : 1 < E.size := by omega
        obtain ⟨x, hx⟩ : ∃ x : UInt8, E[1]'hEk = x := ⟨_, rfl⟩
        have hx128 := h128 hEk
        rw [hx] at hx128
        have hbk : ((badBytes[1]'(by decide)).toNat : Int) = 47 := rfl
        have hne : ((47 : Int) != (x.toNat : Int)) = true := bne_iff_ne.2 (by omega)
        clear h128
        refine wp_scope_straight ?_
        go_wp2_with fail
        refine wp_loop_rounds 1 ?_
        rw [rounds_succ]
        go_wp2_with fail
        refine wp_scope_straight ?_
        go_wp2_with fail
        refine wp_region_sched (fun W => Below w'.heap.size w' W) [] [0, 1, 2, 3, 4, 5, 6] (by kernel_rfl) (by kernel_rfl) (fun _ _ d _ _ h => by cases d <;> exact h) (by kernel_rfl) (of_decide_eq_true (by kernel_rfl)) (Below.refl _ _).drew ?_
        try simp only [Act.put, List.setIfInBounds_toArray, List.set_cons_zero, List.set_cons_succ]
        refine wpSched_nil ?_
        dsimp only [opsAt, List.filterMap, List.getElem?_cons_zero, List.getElem?_cons_succ]
        repeat (first
          | go_big_quiet_skip
          | (go_big_quiet_want
             first
               | (go_big_quiet_op
                  refine ⟨_, fun _ _ => rfl, ?_⟩
                  go_big_quiet_on)
               | (go_big_quiet_op
                  go_big_quiet_on)))
        refine wpQuiet_nil ?_
        go_wp2_with fail
        refine wp_region_sched (fun W => Below w'.heap.size w' W) [([0, 1, 2, 3, 4, 5, 6], 7)] [8] (by kernel_rfl) (by kernel_rfl) (fun _ _ d _ _ h => by cases d <;> exact h) (by kernel_rfl) (of_decide_eq_true (by kernel_rfl)) (Below.refl _ _).drew.drew ?_
        refine wpSched_cons ?_
        dsimp only [opsAt, List.filterMap, List.getElem?_cons_zero, List.getElem?_cons_succ]
        repeat (first
          | go_big_quiet_skip
          | (go_big_quiet_want
             first
               | (go_big_quiet_op
                  refine ⟨_, fun _ _ => rfl, ?_⟩
                  go_big_quiet_on)
               | (go_big_quiet_op
                  go_big_quiet_on)))
        refine wpQuiet_nil ?_
        intro KK hKK
        go_simp
        refine (Try.strings_IndexByte _ _ _).mono ?_
        rintro e w3 ⟨rfl, hw3⟩
        rw [hw3, indexByte_ten x hx128]
        refine hKK _ _ (Below.refl _ _).drew.drew ?_
        clear hKK KK
        try simp only [Act.put, List.setIfInBounds_toArray, List.set_cons_zero, List.set_cons_succ]
        refine wpSched_nil ?_
        dsimp only [opsAt, List.filterMap, List.getElem?_cons_zero, List.getElem?_cons_succ]
        repeat (first
          | go_big_quiet_skip
          | (go_big_quiet_want
             first
               | (go_big_quiet_op
                  refine ⟨_, fun _ _ => rfl, ?_⟩
                  go_big_quiet_on)
               | (go_big_quiet_op
                  go_big_quiet_on)))
        refine wpQuiet_nil ?_
        go_wp2_with fail
        simp only [Exit.noGoto_ret, Exit.inBlock, Exit.then]
        go_ret
        exact ⟨rfl, (Below.refl _ _).drew.drew⟩
      · have hEk : 2 < E.size := by omega
        obtain ⟨x, hx⟩ : ∃ x : UInt8, E[2]'hEk = x := ⟨_, rfl⟩
        have hx128 := h128 hEk
        rw [hx] at hx128
        have hbk : ((badBytes[2]'(by decide)).toNat : Int) = 10 := rfl
        have hne : ((10 : Int) != (x.toNat : Int)) = true := bne_iff_ne.2 (by omega)
        clear h128
        refine wp_scope_straight ?_
        go_wp2_with fail
        refine wp_loop_rounds 1 ?_
        rw [rounds_succ]
        go_wp2_with fail
        refine wp_scope_straight ?_
        go_wp2_with fail
        refine wp_region_sched (fun W => Below w'.heap.size w' W) [] [0, 1, 2, 3, 4, 5, 6] (by kernel_rfl) (by kernel_rfl) (fun _ _ d _ _ h => by cases d <;> exact h) (by kernel_rfl) (of_decide_eq_true (by kernel_rfl)) (Below.refl _ _).drew ?_
        try simp only [Act.put, List.setIfInBounds_toArray, List.set_cons_zero, List.set_cons_succ]
        refine wpSched_nil ?_
        dsimp only [opsAt, List.filterMap, List.getElem?_cons_zero, List.getElem?_cons_succ]
        repeat (first
          | go_big_quiet_skip
          | (go_big_quiet_want
             first
               | (go_big_quiet_op
                  refine ⟨_, fun _ _ => rfl, ?_⟩
                  go_big_quiet_on)
               | (go_big_quiet_op
                  go_big_quiet_on)))
        refine wpQuiet_nil ?_
        go_wp2_with fail
        refine wp_region_sched (fun W => Below w'.heap.size w' W) [([0, 1, 2, 3, 4, 5, 6], 7)] [8] (by kernel_rfl) (by kernel_rfl) (fun _ _ d _ _ h => by cases d <;> exact h) (by kernel_rfl) (of_decide_eq_true (by kernel_rfl)) (Below.refl _ _).drew.drew ?_
        refine wpSched_cons ?_
        dsimp only [opsAt, List.filterMap, List.getElem?_cons_zero, List.getElem?_cons_succ]
        repeat (first
          | go_big_quiet_skip
          | (go_big_quiet_want
             first
               | (go_big_quiet_op
                  refine ⟨_, fun _ _ => rfl, ?_⟩
                  go_big_quiet_on)
               | (go_big_quiet_op
                  go_big_quiet_on)))
        refine wpQuiet_nil ?_
        intro KK hKK
        go_simp
        refine (Try.strings_IndexByte _ _ _).mono ?_
        rintro e w3 ⟨rfl, hw3⟩
        rw [hw3, indexByte_empty]
        refine hKK _ _ (Below.refl _ _).drew.drew ?_
        clear hKK KK
        try simp only [Act.put, List.setIfInBounds_toArray, List.set_cons_zero, List.set_cons_succ]
        refine wpSched_nil ?_
        dsimp only [opsAt, List.filterMap, List.getElem?_cons_zero, List.getElem?_cons_succ]
        repeat (first
          | go_big_quiet_skip
          | (go_big_quiet_want
             first
               | (go_big_quiet_op
                  refine ⟨_, fun _ _ => rfl, ?_⟩
                  go_big_quiet_on)
               | (go_big_quiet_op
                  go_big_quiet_on)))
        refine wpQuiet_nil ?_
        go_wp2_with fail
        simp only [Exit.noGoto_ret, Exit.inBlock, Exit.then]
        go_ret
        exact ⟨rfl, (Below.refl _ _).drew.drew⟩
      · refine wp_scope_straight ?_
        go_wp2_with fail
        refine wp_loop_rounds 1 ?_
        rw [rounds_succ]
        go_wp2_with fail
        rw [Exit.noGoto_ret]
        go_ret
        exact ⟨rfl, Below.refl _ _⟩
end Go.Proofs.Ytoaboehmjfnceaa
