/-
  An operation that is written is read back: as plain functions.
-/
import Derived.Test.YtoaboehmjfnceaaGetOp
import Derived.Test.YtoaboehmjfnceaaPutOp
namespace Go.Proofs.Ytoaboehmjfnceaa
open Go.RowKit
set_option linter.unusedSimpArgs false
set_option linter.unusedVariables false

theorem fnum_enc : ∀ (m N i : Nat) (rest : List UInt8), N ≤ m → (N ≠ 0 ∨ i = 0) → i + (encNum N).length ≤ 9 → fnum i (encNum N ++ rest) = some (N, (encNum N).length) := by
  intro m
  induction m with
  | zero =>
    intro N i rest hm hz hl
    have hN : N < 128 := by omega
    rw [encNum_small hN] at hl ⊢
    have hc : (UInt8.ofNat N).toNat = N := by rw [UInt8.toNat_ofNat', Nat.mod_eq_of_lt (by omega)]
    simp only [List.length_cons, List.length_nil] at hl
    rw [List.cons_append, fnum, hc, if_neg (by omega), if_pos hN, if_neg (by omega)]
    rfl
  | succ m ih =>
    intro N i rest hm hz hl
    by_cases hN : N < 128
    · rw [encNum_small hN] at hl ⊢
      have hc : (UInt8.ofNat N).toNat = N := by rw [UInt8.toNat_ofNat', Nat.mod_eq_of_lt (by omega)]
      simp only [List.length_cons, List.length_nil] at hl
      rw [List.cons_append, fnum, hc, if_neg (by omega), if_pos hN, if_neg (by omega)]
      rfl
    · rw [encNum_big hN] at hl ⊢
      have hc : (UInt8.ofNat (N % 128 + 128)).toNat = N % 128 + 128 := by rw [UInt8.toNat_ofNat', Nat.mod_eq_of_lt (by omega)]
      simp only [List.length_cons] at hl
      rw [List.cons_append, fnum, hc, if_neg (by omega), if_neg (by omega), ih (N / 128) (i + 1) rest (by omega) (by omega) (by omega)]
      have e1 : (N % 128 + 128) % 128 + 128 * (N / 128) = N := by omega
      simp only [Option.map_some, List.length_cons]
      rw [e1]
theorem first_enc (N : Nat) (rest : List UInt8) (h : N ≤ 4611686018427387904) : firstN (encNum N ++ rest) = N ∧ firstS (encNum N ++ rest) = (encNum N).length := by
  have h9 := encNum_le9 h
  have := fnum_enc N N 0 rest (Nat.le_refl _) (Or.inr rfl) (by omega)
  unfold firstN firstS
  rw [this]
  exact ⟨rfl, rfl⟩
theorem rnum_enc (N : Nat) (rest : List UInt8) (most : Int) (h : N ≤ 4611686018427387904) (hm : (N : Int) ≤ most) : rnum (encNum N ++ rest) most = some (N, rest) := by
  obtain ⟨h1, h2⟩ := first_enc N rest h
  have hp := encNum_pos N
  unfold rnum
  rw [h1, h2, if_neg (by omega), List.drop_left]
theorem rtext_enc (s : ByteArray) (rest : List UInt8) (most : Int) (h : s.size ≤ 4611686018427387904) (hm : (s.size : Int) ≤ most) : rtext (encText s ++ rest) most = some (s.data.toList, rest) := by
  unfold rtext encText
  rw [List.append_assoc, rnum_enc _ _ most h hm]
  have hl : s.data.toList.length = s.size := Array.length_toList
  simp only [List.length_append, hl]
  rw [if_pos (by omega), ← hl, List.take_left, List.drop_left]


/-! ### More bytes behind -/
theorem fnum_ext (x : List UInt8) : ∀ (l : List UInt8) (i : Nat) (p : Nat × Nat), fnum i l = some p → fnum i (l ++ x) = some p
  | [], i, p, h => by simp [fnum] at h
  | c :: rest, i, p, h => by
    rw [List.cons_append, fnum]
    rw [fnum] at h
    split
    · rename_i h9; rw [if_pos h9] at h; cases h
    · rename_i h9
      rw [if_neg h9] at h
      split
      · rename_i hc; rw [if_pos hc] at h; exact h
      · rename_i hc
        rw [if_neg hc] at h
        cases hr : fnum (i + 1) rest with
        | none => rw [hr] at h; cases h
        | some q => rw [fnum_ext x rest (i + 1) q hr]; rw [hr] at h; exact h
theorem rnum_ext {l l' : List UInt8} {most : Int} {n : Nat} (x : List UInt8) (h : rnum l most = some (n, l')) : rnum (l ++ x) most = some (n, l' ++ x) := by
  unfold rnum at h
  split at h
  · cases h
  · rename_i hc
    injection h with h
    injection h with h1 h2
    have hp : ∃ p, fnum 0 l = some p := by
      cases hf : fnum 0 l with
      | none => exact absurd (Or.inl (by unfold firstS; rw [hf]; rfl)) hc
      | some p => exact ⟨p, rfl⟩
    obtain ⟨p, hp⟩ := hp
    have hx := fnum_ext x l 0 p hp
    have e1 : firstN (l ++ x) = firstN l := by unfold firstN; rw [hx, hp]
    have e2 : firstS (l ++ x) = firstS l := by unfold firstS; rw [hx, hp]
    have hs := firstS_le l
    unfold rnum
    rw [e1, e2, if_neg hc, h1, ← h2, List.drop_append_of_le_length hs]
theorem rtext_ext {l l' : List UInt8} {most : Int} {s : List UInt8} (x : List UInt8) (h : rtext l most = some (s, l')) : rtext (l ++ x) most = some (s, l' ++ x) := by
  unfold rtext at h ⊢
  cases hr : rnum l most with
  | none => rw [hr] at h; cases h
  | some p =>
    obtain ⟨n, m⟩ := p
    rw [rnum_ext x hr]
    rw [hr] at h
    dsimp only at h ⊢
    split at h
    · rename_i hn
      injection h with h
      injection h with h1 h2
      rw [if_pos (by rw [List.length_append]; omega), List.take_append_of_le_length hn, List.drop_append_of_le_length hn, h1, h2]
    · cases h

theorem numT_ext {l : List UInt8} {f : Bool} {most : Int} (x : List UInt8) (h : (numT l f most).2.2 = false) : f = false ∧ numT (l ++ x) f most = ((numT l f most).1, (numT l f most).2.1 ++ x, false) := by
  unfold numT at h ⊢
  cases hr : rnum l most with
  | none => rw [hr] at h; cases h
  | some p =>
    rw [hr] at h
    rw [rnum_ext x (n := p.1) (l' := p.2) hr]
    exact ⟨h, by rw [show f = false from h]⟩
theorem stampT_ext {l : List UInt8} {f : Bool} (x : List UInt8) (h : (stampT l f).2.2 = false) : f = false ∧ stampT (l ++ x) f = ((stampT l f).1, (stampT l f).2.1 ++ x, false) := by
  unfold stampT at h ⊢
  dsimp only at h ⊢
  obtain ⟨h1, e1⟩ := numT_ext x h
  obtain ⟨h2, e2⟩ := numT_ext x h1
  rw [e2]
  dsimp only
  rw [h1] at e1
  rw [h1, e1]
  exact ⟨h2, rfl⟩
theorem textT_ext {l : List UInt8} {f : Bool} {most : Int} (x : List UInt8) (h : (textT l f most).2.2 = false) : f = false ∧ textT (l ++ x) f most = ((textT l f most).1, (textT l f most).2.1 ++ x, false) := by
  unfold textT at h ⊢
  cases hr : rtext l most with
  | none => rw [hr] at h; cases h
  | some p =>
    rw [hr] at h
    rw [rtext_ext x (s := p.1) (l' := p.2) hr]
    exact ⟨h, by rw [show f = false from h]⟩
theorem idT_ext {l : List UInt8} {f : Bool} (x : List UInt8) (h : (idT l f).2.2 = false) : f = false ∧ idT (l ++ x) f = ((idT l f).1, (idT l f).2.1 ++ x, false) := by
  unfold idT at h ⊢
  by_cases hl : 32 ≤ l.length
  · rw [if_pos hl] at h ⊢
    rw [if_pos (by rw [List.length_append]; omega), List.take_append_of_le_length hl, List.drop_append_of_le_length hl]
    exact ⟨h, by rw [show f = false from h]⟩
  · rw [if_neg hl] at h
    cases h
theorem stampsT_ext (x : List UInt8) : ∀ (n : Nat) (l : List UInt8) (f : Bool), (stampsT n l f).2.2 = false → f = false ∧ stampsT n (l ++ x) f = ((stampsT n l f).1, (stampsT n l f).2.1 ++ x, false)
  | 0, l, f, h => ⟨h, by rw [stampsT, stampsT]; rw [show f = false from h]⟩
  | n + 1, l, f, h => by
    cases f
    · rw [stampsT_step] at h ⊢
      rw [stampsT_step]
      dsimp only at h ⊢
      obtain ⟨h1, e1⟩ := stampsT_ext x n _ _ h
      obtain ⟨_, e2⟩ := stampT_ext x h1
      rw [e2]
      dsimp only
      rw [h1] at e1
      rw [h1, e1]
      exact ⟨rfl, rfl⟩
    · rw [stampsT_failed] at h
      cases h
theorem listT_ext {l : List UInt8} {f : Bool} (x : List UInt8) (h : (listT l f).2.2 = false) : f = false ∧ listT (l ++ x) f = ((listT l f).1, (listT l f).2.1 ++ x, false) := by
  unfold listT at h ⊢
  obtain ⟨h1, e1⟩ := stampsT_ext x _ _ _ h
  obtain ⟨h2, e2⟩ := numT_ext x h1
  rw [e2]
  dsimp only
  rw [h1] at e1
  rw [h1, e1]
  exact ⟨h2, rfl⟩

theorem rawOp_move {l l1 l2 l3 l4 l5 : List UInt8} {f f1 f2 f3 f4 f5 : Bool} {t r nt nr pt pr : Int} {z : List UInt8} (hK : numT l f 2 = (1, l1, f1)) (hA : stampT l1 f1 = ((t, r), l2, f2)) (hN : stampT l2 f2 = ((nt, nr), l3, f3)) (hP : stampT l3 f3 = ((pt, pr), l4, f4)) (hT : textT l4 f4 60 = (z, l5, f5)) :
    rawOp l f = (⟨1, t, r, nt, nr, pt, pr, ⟨z.toArray⟩, id0, []⟩, l5, f5) := by
  unfold rawOp
  rw [hK]
  dsimp only
  rw [hA]
  dsimp only
  rw [hN]
  dsimp only
  rw [if_pos rfl, hP]
  dsimp only
  rw [hT]
theorem rawOp_edit {l l1 l2 l3 l4 l5 : List UInt8} {f f1 f2 f3 f4 f5 : Bool} {t r nt nr : Int} {d : List UInt8} {ss : List (Int × Int)} (hK : numT l f 2 = (2, l1, f1)) (hA : stampT l1 f1 = ((t, r), l2, f2)) (hN : stampT l2 f2 = ((nt, nr), l3, f3)) (hP : idT l3 f3 = (d, l4, f4)) (hT : listT l4 f4 = (ss, l5, f5)) :
    rawOp l f = (⟨2, t, r, nt, nr, 0, 0, ⟨#[]⟩, d, ss⟩, l5, f5) := by
  unfold rawOp
  rw [hK]
  dsimp only
  rw [hA]
  dsimp only
  rw [hN]
  dsimp only
  rw [if_neg (by decide), if_pos rfl, hP]
  dsimp only
  rw [hT]
theorem rawOp_none {l l1 l2 l3 : List UInt8} {f f1 f2 f3 : Bool} {k t r nt nr : Int} (hK : numT l f 2 = (k, l1, f1)) (hA : stampT l1 f1 = ((t, r), l2, f2)) (hN : stampT l2 f2 = ((nt, nr), l3, f3)) (h1 : k ≠ 1) (h2 : k ≠ 2) :
    rawOp l f = (⟨k, t, r, nt, nr, 0, 0, ⟨#[]⟩, id0, []⟩, l3, f3) := by
  unfold rawOp
  rw [hK]
  dsimp only
  rw [hA]
  dsimp only
  rw [hN]
  dsimp only
  rw [if_neg h1, if_neg h2]
theorem ext_num {l l' : List UInt8} {f : Bool} {most z : Int} (x : List UInt8) (h : numT l f most = (z, l', false)) : f = false ∧ numT (l ++ x) f most = (z, l' ++ x, false) := by
  have := numT_ext (l := l) (f := f) (most := most) x (by rw [h])
  rw [h] at this
  exact this
theorem ext_stamp {l l' : List UInt8} {f : Bool} {z : Int × Int} (x : List UInt8) (h : stampT l f = (z, l', false)) : f = false ∧ stampT (l ++ x) f = (z, l' ++ x, false) := by
  have := stampT_ext (l := l) (f := f) x (by rw [h])
  rw [h] at this
  exact this
theorem ext_text {l l' : List UInt8} {f : Bool} {most : Int} {z : List UInt8} (x : List UInt8) (h : textT l f most = (z, l', false)) : f = false ∧ textT (l ++ x) f most = (z, l' ++ x, false) := by
  have := textT_ext (l := l) (f := f) (most := most) x (by rw [h])
  rw [h] at this
  exact this
theorem ext_id {l l' : List UInt8} {f : Bool} {z : List UInt8} (x : List UInt8) (h : idT l f = (z, l', false)) : f = false ∧ idT (l ++ x) f = (z, l' ++ x, false) := by
  have := idT_ext (l := l) (f := f) x (by rw [h])
  rw [h] at this
  exact this
theorem ext_list {l l' : List UInt8} {f : Bool} {z : List (Int × Int)} (x : List UInt8) (h : listT l f = (z, l', false)) : f = false ∧ listT (l ++ x) f = (z, l' ++ x, false) := by
  have := listT_ext (l := l) (f := f) x (by rw [h])
  rw [h] at this
  exact this
theorem rawOp_ext {l : List UInt8} {f : Bool} (x : List UInt8) (h : (rawOp l f).2.2 = false) : rawOp (l ++ x) f = ((rawOp l f).1, (rawOp l f).2.1 ++ x, false) := by
  obtain ⟨⟨k, l1, f1⟩, hK⟩ : ∃ K, numT l f 2 = K := ⟨_, rfl⟩
  obtain ⟨⟨⟨t, r⟩, l2, f2⟩, hA⟩ : ∃ K, stampT l1 f1 = K := ⟨_, rfl⟩
  obtain ⟨⟨⟨nt, nr⟩, l3, f3⟩, hN⟩ : ∃ K, stampT l2 f2 = K := ⟨_, rfl⟩
  have hx : f3 = false → (numT (l ++ x) f 2 = (k, l1 ++ x, false) ∧ stampT (l1 ++ x) false = ((t, r), l2 ++ x, false) ∧ stampT (l2 ++ x) false = ((nt, nr), l3 ++ x, false)) := fun e => by
    rw [e] at hN
    obtain ⟨e2, n2⟩ := ext_stamp x hN
    rw [e2] at hA n2
    obtain ⟨e1, a2⟩ := ext_stamp x hA
    rw [e1] at hK a2
    exact ⟨(ext_num x hK).2, a2, n2⟩
  by_cases h1 : k = 1
  · subst h1
    obtain ⟨⟨⟨pt, pr⟩, l4, f4⟩, hP⟩ : ∃ K, stampT l3 f3 = K := ⟨_, rfl⟩
    obtain ⟨⟨z, l5, f5⟩, hT⟩ : ∃ K, textT l4 f4 60 = K := ⟨_, rfl⟩
    have e := rawOp_move hK hA hN hP hT
    rw [e] at h ⊢
    have h5 : f5 = false := h
    rw [h5] at hT
    obtain ⟨e4, t2⟩ := ext_text x hT
    rw [e4] at hP t2
    obtain ⟨e3, p2⟩ := ext_stamp x hP
    obtain ⟨k2, a2, n2⟩ := hx e3
    rw [e3] at p2
    exact rawOp_move k2 a2 n2 p2 t2
  · by_cases h2 : k = 2
    · subst h2
      obtain ⟨⟨d, l4, f4⟩, hP⟩ : ∃ K, idT l3 f3 = K := ⟨_, rfl⟩
      obtain ⟨⟨ss, l5, f5⟩, hT⟩ : ∃ K, listT l4 f4 = K := ⟨_, rfl⟩
      have e := rawOp_edit hK hA hN hP hT
      rw [e] at h ⊢
      have h5 : f5 = false := h
      rw [h5] at hT
      obtain ⟨e4, t2⟩ := ext_list x hT
      rw [e4] at hP t2
      obtain ⟨e3, p2⟩ := ext_id x hP
      obtain ⟨k2, a2, n2⟩ := hx e3
      rw [e3] at p2
      exact rawOp_edit k2 a2 n2 p2 t2
    · have e := rawOp_none hK hA hN h1 h2
      rw [e] at h ⊢
      obtain ⟨k2, a2, n2⟩ := hx h
      exact rawOp_none k2 a2 n2 h1 h2

/-! ### What is written is read back -/
theorem numT_enc (z : Int) (rest : List UInt8) (most : Int) (h0 : 0 ≤ z) (hm : z ≤ most) (h62 : most ≤ 4611686018427387904) : numT (encNum (clampN z) ++ rest) false most = (z, rest, false) := by
  have hc : ((clampN z : Nat) : Int) = z := by rw [clampN_cast]; unfold clampI; omega
  unfold numT
  rw [rnum_enc (clampN z) rest most (clampN_le z) (by omega)]
  dsimp only
  rw [hc]
theorem stampT_enc (t r : Int) (rest : List UInt8) (ht : 0 ≤ t ∧ t ≤ 1099511627776) (hr : 0 ≤ r ∧ r ≤ 65536) : stampT (encNum (clampN t) ++ (encNum (clampN r) ++ rest)) false = ((t, r), rest, false) := by
  unfold stampT
  rw [numT_enc t _ _ ht.1 ht.2 (by omega)]
  dsimp only
  rw [numT_enc r _ _ hr.1 hr.2 (by omega)]
theorem stampsT_enc : ∀ (ss : List (Int × Int)) (rest : List UInt8), (∀ p ∈ ss, (0 ≤ p.1 ∧ p.1 ≤ 1099511627776) ∧ (0 ≤ p.2 ∧ p.2 ≤ 65536)) → stampsT ss.length (encStamps ss ++ rest) false = (ss, rest, false)
  | [], rest, _ => rfl
  | (t, r) :: ss, rest, h => by
    have h1 := h (t, r) (by simp)
    have ih := stampsT_enc ss rest fun p hp => h p (by simp [hp])
    have e : encStamps ((t, r) :: ss) ++ rest = encNum (clampN t) ++ (encNum (clampN r) ++ (encStamps ss ++ rest)) := by simp [encStamps]
    rw [List.length_cons, stampsT_step, e, stampT_enc t r _ h1.1 h1.2]
    dsimp only
    rw [ih]
theorem textT_enc (s : ByteArray) (rest : List UInt8) (h : s.size ≤ 60) : textT (encText s ++ rest) false 60 = (s.data.toList, rest, false) := by
  unfold textT
  rw [rtext_enc s rest 60 (by omega) (by omega)]
theorem idT_enc (d : List UInt8) (rest : List UInt8) (h : d.length = 32) : idT (d ++ rest) false = (d, rest, false) := by
  unfold idT
  rw [if_pos (by rw [List.length_append]; omega), List.take_append_of_le_length (by omega), List.drop_append_of_le_length (by omega), List.take_of_length_le (by omega), List.drop_eq_nil_of_le (by omega), List.nil_append]

def OpV.enc (o : OpV) : List UInt8 := encOp o.k o.t o.r o.nt o.nr o.pt o.pr o.s o.d o.ss
theorem right_bounds {t r : Int} (h : rightB t r = true) : (0 ≤ t ∧ t ≤ 1099511627776) ∧ (0 ≤ r ∧ r ≤ 65536) := by
  have := (rightB_iff t r).1 h
  omega
theorem place_bounds {t r : Int} (h : placeB t r = true) : (0 ≤ t ∧ t ≤ 1099511627776) ∧ (0 ≤ r ∧ r ≤ 65536) := by
  unfold placeB at h
  simp only [Bool.or_eq_true, decide_eq_true_eq] at h
  rcases h with h | h | h
  · omega
  · omega
  · exact right_bounds h
theorem over_bounds {ta ra : Int} {ss : List (Int × Int)} (h : anyWrong ta ra ss = false) : ∀ p ∈ ss, (0 ≤ p.1 ∧ p.1 ≤ 1099511627776) ∧ (0 ≤ p.2 ∧ p.2 ≤ 65536) := fun p hp => by
  unfold anyWrong at h
  rw [List.any_eq_false] at h
  have h1 := h p hp
  unfold wrongB at h1
  simp only [Bool.or_eq_true, Bool.not_eq_true', not_or, Bool.not_eq_false] at h1
  exact right_bounds h1.1

theorem nums_one (z : Int) : encNums [z] = encNum (clampN z) := by simp [encNums]
theorem stamps_two (t r u v : Int) (rest : List UInt8) : encStamps [(t, r), (u, v)] ++ rest = encNum (clampN t) ++ (encNum (clampN r) ++ (encNum (clampN u) ++ (encNum (clampN v) ++ rest))) := by simp [encStamps]
theorem stamps_one (t r : Int) (rest : List UInt8) : encStamps [(t, r)] ++ rest = encNum (clampN t) ++ (encNum (clampN r) ++ rest) := by simp [encStamps]
theorem str_nil {s : ByteArray} (h : s.toList.isEmpty = true) : s = ⟨#[]⟩ := by
  rw [Lib.toList_data] at h
  have : s.data.toList = [] := by simpa using h
  obtain ⟨a⟩ := s
  simp at this
  rw [this]

theorem rawOp_enc (o : OpV) (rest : List UInt8) (hd : o.d.length = 32) (hg : o.good = true) : rawOp (o.enc ++ rest) false = (o, rest, false) := by
  obtain ⟨k, t, r, nt, nr, pt, pr, s, d, ss⟩ := o
  unfold OpV.good at hg
  unfold OpV.enc
  dsimp only at hd hg ⊢
  have hg2 := hg
  unfold goodOpB goodV moveB editB overB at hg2
  simp only [Bool.and_eq_true] at hg2
  obtain ⟨ha, hn, hrest⟩ := hg2
  have ba := right_bounds ha
  have bn := right_bounds hn
  rcases good_move hg with ⟨rfl, rfl, rfl, h60⟩ | ⟨rfl, h64, rfl, rfl, hse⟩
  · rw [if_pos rfl] at hrest
    simp only [Bool.and_eq_true] at hrest
    have bp := place_bounds hrest.2.1
    unfold encOp
    rw [if_pos rfl]
    unfold encMove
    rw [nums_one, List.append_assoc, List.append_assoc, List.append_assoc, stamps_two, stamps_one]
    have e := rawOp_move (numT_enc 1 _ 2 (by omega) (by omega) (by omega)) (stampT_enc t r _ ba.1 ba.2) (stampT_enc nt nr _ bn.1 bn.2) (stampT_enc pt pr _ bp.1 bp.2) (textT_enc s rest h60)
    exact e
  · rw [if_neg (by decide), if_pos rfl] at hrest
    simp only [Bool.and_eq_true, Bool.not_eq_true'] at hrest
    have bo := over_bounds hrest.2.2.2.2.2.2
    have hs := str_nil hse
    subst hs
    unfold encOp
    rw [if_neg (by decide)]
    unfold encEdit
    have hl : listT (encNum (clampN (ss.length : Int)) ++ (encStamps ss ++ rest)) false = (ss, rest, false) := by
      unfold listT
      rw [numT_enc (ss.length : Int) _ 64 (by omega) (by omega) (by omega)]
      dsimp only
      rw [show ((ss.length : Nat) : Int).toNat = ss.length by omega, stampsT_enc ss rest bo]
    rw [nums_one, nums_one, List.append_assoc, List.append_assoc, List.append_assoc, List.append_assoc, stamps_two]
    exact rawOp_edit (numT_enc 2 _ 2 (by omega) (by omega) (by omega)) (stampT_enc t r _ ba.1 ba.2) (stampT_enc nt nr _ bn.1 bn.2) (idT_enc d _ hd) hl
theorem getOp_enc (o : OpV) (rest : List UInt8) (hd : o.d.length = 32) (hg : o.good = true) : getOp (o.enc ++ rest) false = (o, rest, false) := by
  unfold getOp
  rw [rawOp_enc o rest hd hg, if_pos ⟨rfl, hg⟩]
/-- A proper beginning is no operation. -/
theorem getOp_cut (o : OpV) (m : Nat) (hd : o.d.length = 32) (hg : o.good = true) (hm : m < o.enc.length) : getOp (o.enc.take m) false = (.zero, [], true) := by
  unfold getOp
  rw [if_neg]
  intro h
  have h1 := rawOp_ext (o.enc.drop m) h.1
  rw [List.take_append_drop] at h1
  have h2 := rawOp_enc o [] hd hg
  rw [List.append_nil, h1] at h2
  injection h2 with h3 h4
  injection h4 with h5 h6
  have h7 := List.append_eq_nil_iff.1 h5
  have h8 : (o.enc.drop m).length = 0 := by rw [h7.2]; rfl
  rw [List.length_drop] at h8
  omega
theorem OpV.enc_pos (o : OpV) : 0 < o.enc.length := by
  unfold OpV.enc encOp encMove encEdit
  split
  · rw [nums_one]
    have := encNum_pos (clampN 1)
    simp only [List.length_append]
    omega
  · rw [nums_one]
    have := encNum_pos (clampN 2)
    simp only [List.length_append]
    omega
theorem enc_same (o p : OpV) (hd : o.d.length = 32) (hd' : p.d.length = 32) (hg : o.good = true) (hg' : p.good = true) : decide (o.enc = p.enc) = sameOpB o.k o.t o.r o.nt o.nr o.pt o.pr o.s o.d o.ss p.k p.t p.r p.nt p.nr p.pt p.pr p.s p.d p.ss := by
  by_cases h : o.enc = p.enc
  · have h1 := rawOp_enc o [] hd hg
    rw [h, rawOp_enc p [] hd' hg'] at h1
    injection h1 with h2
    subst h2
    rw [decide_eq_true rfl, sameOpB_refl]
  · rw [decide_eq_false h]
    cases hs : sameOpB o.k o.t o.r o.nt o.nr o.pt o.pr o.s o.d o.ss p.k p.t p.r p.nt p.nr p.pt p.pr p.s p.d p.ss with
    | false => rfl
    | true =>
      exfalso
      apply h
      unfold sameOpB sameV at hs
      simp only [Bool.and_eq_true, decide_eq_true_eq, beq_iff_eq] at hs
      obtain ⟨e1, ⟨e2, e3⟩, ⟨e4, e5⟩, ⟨e6, e7⟩, e8, e9, e10⟩ := hs
      have e8' : o.s = p.s := by
        rw [Lib.toList_data, Lib.toList_data] at e8
        obtain ⟨k, t, r, nt, nr, pt, pr, ⟨s⟩, d, ss⟩ := o
        obtain ⟨k', t', r', nt', nr', pt', pr', ⟨s'⟩, d', ss'⟩ := p
        dsimp only at e8 ⊢
        rw [Array.toList_inj.1 e8]
      unfold OpV.enc
      rw [e1, e2, e3, e4, e5, e6, e7, e8', e9, e10]

/-! ### What Put writes -/
theorem put_good (k t r nt nr pt pr : Int) (s : ByteArray) (d : List UInt8) (a : Option Addr) (ss : List (Int × Int)) (c : Nat) (w : World) (hd : d.length = 32) (hm : s.size ≤ maxLen) (ha : StampsAt w a ss) (hl : ss.length ≤ 4611686018427387903) (hg : goodOpB k t r nt nr pt pr s d ss = true) :
    Calls Try.prog 22 #[.slice none 0 0, .agg (opCells k t r nt nr pt pr s d (.slice a ss.length c))] w (ReadPost w (encOp k t r nt nr pt pr s d ss)) := by
  have h := putop_any none [] 0 k t r nt nr pt pr s d a ss c w (BytesAt.nil _ _) (fun _ => rfl) (by simp) hd hm ha hl
  rw [if_pos hg, List.nil_append] at h
  exact h.mono fun _ _ h => readPost_of h
theorem put_wrong (k t r nt nr pt pr : Int) (s : ByteArray) (d : List UInt8) (a : Option Addr) (ss : List (Int × Int)) (c : Nat) (w : World) (hd : d.length = 32) (hm : s.size ≤ maxLen) (ha : StampsAt w a ss) (hl : ss.length ≤ 4611686018427387903) (hg : goodOpB k t r nt nr pt pr s d ss = false) :
    Calls Try.prog 22 #[.slice none 0 0, .agg (opCells k t r nt nr pt pr s d (.slice a ss.length c))] w (ReadPost w []) := by
  have h := putop_any none [] 0 k t r nt nr pt pr s d a ss c w (BytesAt.nil _ _) (fun _ => rfl) (by simp) hd hm ha hl
  rw [if_neg (by rw [hg]; decide)] at h
  exact h.mono fun _ _ h => readPost_of h
theorem encOp_len {k t r nt nr pt pr : Int} {s : ByteArray} {d : List UInt8} {ss : List (Int × Int)} (hd : d.length = 32) (hg : goodOpB k t r nt nr pt pr s d ss = true) : 0 < (encOp k t r nt nr pt pr s d ss).length ∧ (encOp k t r nt nr pt pr s d ss).length ≤ 2000 := by
  refine ⟨OpV.enc_pos ⟨k, t, r, nt, nr, pt, pr, s, d, ss⟩, ?_⟩
  unfold encOp encMove encEdit
  rcases good_move hg with ⟨rfl, _, _, h60⟩ | ⟨rfl, h64, _, _, _⟩
  · rw [if_pos rfl]
    have h1 := encNums_len [1]
    have h2 := encStamps_len [(t, r), (nt, nr)]
    have h3 := encStamps_len [(pt, pr)]
    have h4 := encNum_le9 (n := s.size) (by omega)
    have h5 : s.data.toList.length = s.size := Array.length_toList
    unfold encText
    simp only [List.length_append, List.length_cons, List.length_nil] at h1 h2 h3 ⊢
    omega
  · rw [if_neg (by decide)]
    have h1 := encNums_len [2]
    have h2 := encStamps_len [(t, r), (nt, nr)]
    have h3 := encNums_len [(ss.length : Int)]
    have h4 := encStamps_len ss
    simp only [List.length_append, List.length_cons, List.length_nil] at h1 h2 h3 ⊢
    omega
end Go.Proofs.Ytoaboehmjfnceaa
