/-
  Steps, one behind the other, without worlds.
-/
import Derived.Test.YtpdoiodgdhlecaaBackMath
import Derived.Test.YtpdoiodgdhlecaaDApply
namespace Go.Proofs.Ytpdoiodgdhlecaa

theorem step_copy {base rest : List UInt8} {n f o : Nat} (hn : 1 ≤ n) (ho : n + o ≤ 1048576) (hf : f + n ≤ base.length) (hb : base.length ≤ 1048576) :
    stepD base (encNum (2 * n + 1) ++ (encNum f ++ rest)) o = .inr ((base.drop f).take n, rest) := by
  unfold stepD
  rw [rnum_enc (2 * n + 1) _ _ (by omega) (by omega)]
  simp only
  rw [show (2 * n + 1) / 2 = n by omega, if_neg (by omega), if_neg (by omega), rnum_enc f rest _ (by omega) (by omega)]
  simp only
  rw [if_neg (by omega)]
theorem step_own {base own rest : List UInt8} {o : Nat} (hn : 1 ≤ own.length) (ho : own.length + o ≤ 1048576) :
    stepD base (encNum (2 * own.length) ++ (own ++ rest)) o = .inr (own, rest) := by
  unfold stepD
  rw [rnum_enc (2 * own.length) _ _ (by omega) (by omega)]
  simp only
  rw [show 2 * own.length / 2 = own.length by omega, if_neg (by omega), if_pos (by omega), if_neg (by rw [List.length_append]; omega), List.take_left, List.drop_left]
theorem step_over {base : List UInt8} {o : Nat} (ho : o < 1048576) (hb : base.length ≤ 1048576) : stepD base (3 :: encNum base.length) o = .inl 70 := by
  have e : (3 : UInt8) :: encNum base.length = encNum 3 ++ (encNum base.length ++ []) := by rw [encNum_small (show 3 < 128 by omega)]; simp
  unfold stepD
  rw [e, rnum_enc 3 _ _ (by omega) (by omega)]
  simp only
  rw [if_neg (by omega), if_neg (by omega), rnum_enc base.length [] _ (by omega) (by omega)]
  simp only
  rw [if_pos (by omega)]
/-- Steps S lead from nothing to W. -/
def Emits (base S W : List UInt8) : Prop := ∀ R rest, Stands base R [] (S ++ rest) → Stands base R W rest
theorem Emits.nil (base : List UInt8) : Emits base [] [] := fun _ _ h => h
theorem Emits.go {base S W E p : List UInt8} (h : Emits base S W) (hE : E ≠ []) (hs : ∀ rest, stepD base (E ++ rest) W.length = .inr (p, rest)) : Emits base (S ++ E) (W ++ p) := by
  intro R rest h1
  rw [List.append_assoc] at h1
  have h2 := h R (E ++ rest) h1
  exact h2.go (by simp [hE]) (hs rest)
theorem enc_ne (n : Nat) (l : List UInt8) : encNum n ++ l ≠ [] := by
  have h1 := encNum_pos n
  intro h
  have h2 := congrArg List.length h
  rw [List.length_append, List.length_nil] at h2
  omega
theorem Emits.copy {base S W : List UInt8} {n f : Nat} (h : Emits base S W) (hn : 1 ≤ n) (ho : n + W.length ≤ 1048576) (hf : f + n ≤ base.length) (hb : base.length ≤ 1048576) :
    Emits base (S ++ encNum (2 * n + 1) ++ encNum f) (W ++ (base.drop f).take n) := by
  rw [List.append_assoc]
  exact h.go (enc_ne _ _) (fun rest => by rw [List.append_assoc]; exact step_copy hn ho hf hb)
theorem Emits.own {base S W own : List UInt8} (h : Emits base S W) (hn : 1 ≤ own.length) (ho : own.length + W.length ≤ 1048576) :
    Emits base (S ++ encNum (2 * own.length) ++ own) (W ++ own) := by
  rw [List.append_assoc]
  exact h.go (enc_ne _ _) (fun rest => by rw [List.append_assoc]; exact step_own hn ho)
theorem Emits.run {base S W : List UInt8} (h : Emits base S W) (rest : List UInt8) : Stands base (stepsD base ((S ++ rest).length + 1) [] (S ++ rest)) W rest := h _ _ (Stands.start _ _)
theorem emits_apply {base S W : List UInt8} (h : Emits base S W) (t : Nat) (ht : t ≤ 1048576) : applyD base (encNum t ++ S) = if W.length = t then (0, W) else (20, []) := by
  rw [applyD_some (rnum_enc t S 1048576 (by omega) (by omega))]
  have h1 := h.run []
  rw [List.append_nil] at h1
  rw [h1.end]
  rfl
theorem emits_over {base S W : List UInt8} (h : Emits base S W) (hW : W.length < 1048576) (hb : base.length ≤ 1048576) : applyD base (encNum W.length ++ S ++ [3] ++ encNum base.length) = (70, []) := by
  rw [show encNum W.length ++ S ++ [3] ++ encNum base.length = encNum W.length ++ (S ++ (3 :: encNum base.length)) by simp]
  rw [applyD_some (rnum_enc W.length _ 1048576 (by omega) (by omega))]
  rw [(h.run (3 :: encNum base.length)).err (by simp) (step_over hW hb)]
  rfl
end Go.Proofs.Ytpdoiodgdhlecaa
