/-
  Digits written and parsed again: as plain functions.
-/
import Derived.Test.YtcgfkgkajifpbaaParseMath
namespace Go.Proofs.Ytcgfkgkajifpbaa
open Go Go.RowKit

theorem unh_dig (n : Nat) (h : n < 16) : unh (dig n).toNat = some n := by
  have : ∀ n : Fin 16, unh (dig n.1).toNat = some n.1 := by decide
  exact this ⟨n, h⟩
theorem dig_unh (c : UInt8) (v : Nat) (h : unh c.toNat = some v) : dig v = c := by
  have lo : ∀ v : Fin 10, (dig v.1).toNat = v.1 + 48 := by decide
  have hi : ∀ v : Fin 6, (dig (v.1 + 10)).toNat = v.1 + 97 := by decide
  apply UInt8.toNat_inj.1
  unfold unh at h
  split at h
  · injection h with h
    have := lo ⟨v, by omega⟩
    simp only at this
    omega
  · split at h
    · injection h with h
      have := hi ⟨v - 10, by omega⟩
      simp only [show v - 10 + 10 = v by omega] at this
      omega
    · cases h
theorem hexL_getD : ∀ (l : List UInt8) (j : Nat) (h : j < l.length), (hexL l).getD (2 * j) 0 = dig (l[j].toNat / 16) ∧ (hexL l).getD (2 * j + 1) 0 = dig (l[j].toNat % 16)
  | [], j, h => absurd h (by simp)
  | c :: l, 0, _ => ⟨rfl, rfl⟩
  | c :: l, j + 1, h => by
    have := hexL_getD l j (by simpa using h)
    rw [show 2 * (j + 1) = 2 * j + 1 + 1 by omega]
    exact this
theorem nib_hexL (l : List UInt8) (j : Nat) (h : j < l.length) : nibV (hexL l) (2 * j) = l[j].toNat / 16 ∧ nibV (hexL l) (2 * j + 1) = l[j].toNat % 16 := by
  obtain ⟨h1, h2⟩ := hexL_getD l j h
  have := l[j].toNat_lt
  unfold nibV
  rw [h1, h2, unh_dig _ (by omega), unh_dig _ (by omega)]
  exact ⟨rfl, rfl⟩
theorem allHex_hexL : ∀ l, allHex (hexL l) = true
  | [] => rfl
  | c :: l => by
    have h1 := allHex_hexL l
    have := c.toNat_lt
    unfold allHex at h1 ⊢
    rw [hexL, List.all_cons, List.all_cons, h1, unh_dig _ (by omega), unh_dig _ (by omega)]
    rfl
theorem parsed_hexL (l : List UInt8) (h : l.length = 32) : parsed (hexL l) 64 = l := by
  apply List.ext_getElem
  · rw [parsed_length, h]
  · intro j h1 h2
    have hj : j < 32 := by omega
    rw [parsed_get _ _ _ hj]
    obtain ⟨e1, e2⟩ := nib_hexL l j h2
    have hc := l[j].toNat_lt
    unfold cellN
    rw [if_pos (by omega), e1, e2]
    apply UInt8.toNat_inj.1
    rw [UInt8.toNat_ofNat', Nat.mod_eq_of_lt (by omega)]
    omega
theorem parseL_hexL (l : List UInt8) (h : l.length = 32) : parseL (hexL l) = l := by
  unfold parseL
  rw [if_pos ⟨by rw [hexL_length, h], allHex_hexL l⟩, parsed_hexL l h]
theorem parseB_hexL (l : List UInt8) (h : l.length = 32) : parseB (hexL l) = true := by
  unfold parseB
  rw [hexL_length, h, allHex_hexL]
  rfl
theorem hexL_parsed (l : List UInt8) (h : l.length = 64) (ha : allHex l = true) : hexL (parsed l 64) = l := by
  have hl : (hexL (parsed l 64)).length = 64 := by rw [hexL_length, parsed_length]
  have hnib : ∀ i, i < 64 → dig (nibV l i) = l.getD i 0 := by
    intro i hi
    have hi' : i < l.length := by omega
    have hm : l.getD i 0 ∈ l := by
      rw [List.getD_eq_getElem?_getD, List.getElem?_eq_getElem hi', Option.getD_some]
      exact List.getElem_mem _
    have h1 := List.all_eq_true.1 ha _ hm
    unfold nibV
    cases hu : unh (l.getD i 0).toNat with
    | none => rw [hu] at h1; simp at h1
    | some v => exact dig_unh _ _ hu
  have hev : ∀ i, i < 64 → (hexL (parsed l 64)).getD i 0 = l.getD i 0 := by
    intro i hi
    have hj : i / 2 < (parsed l 64).length := by rw [parsed_length]; omega
    obtain ⟨h1, h2⟩ := hexL_getD (parsed l 64) (i / 2) hj
    have n0 := nibV_lt l (2 * (i / 2))
    have n1 := nibV_lt l (2 * (i / 2) + 1)
    have hc : (parsed l 64)[i / 2].toNat = 16 * nibV l (2 * (i / 2)) + nibV l (2 * (i / 2) + 1) := by
      rw [parsed_get _ _ _ (by omega)]
      unfold cellN
      rw [if_pos (by omega), UInt8.toNat_ofNat', Nat.mod_eq_of_lt (by omega)]
    rw [hc] at h1 h2
    rcases Nat.mod_two_eq_zero_or_one i with h | h
    · have e : i = 2 * (i / 2) := by omega
      rw [show (16 * nibV l (2 * (i / 2)) + nibV l (2 * (i / 2) + 1)) / 16 = nibV l (2 * (i / 2)) by omega, ← e] at h1
      rw [h1, hnib i hi]
    · have e : i = 2 * (i / 2) + 1 := by omega
      rw [show (16 * nibV l (2 * (i / 2)) + nibV l (2 * (i / 2) + 1)) % 16 = nibV l (2 * (i / 2) + 1) by omega, ← e] at h2
      rw [h2, hnib i hi]
  apply List.ext_getElem
  · omega
  · intro i h1 h2
    have := hev i (by omega)
    rwa [List.getD_eq_getElem?_getD, List.getD_eq_getElem?_getD, List.getElem?_eq_getElem h1, List.getElem?_eq_getElem h2, Option.getD_some, Option.getD_some] at this
theorem hexL_inj (l m : List UInt8) (hl : l.length = 32) (hm : m.length = 32) (h : hexL l = hexL m) : l = m := by
  rw [← parsed_hexL l hl, ← parsed_hexL m hm, h]
/-- One digit of an ID's turned: an ID that is written so, that one only where nothing was turned; or none, and noughts. -/
theorem turned_parse (idl : List UInt8) (hid : idl.length = 32) (i : Nat) (hi : i < 64) (c : UInt8) :
    (parseB ((hexL idl).set i c) = true → hexL (parseL ((hexL idl).set i c)) = (hexL idl).set i c ∧ (parseL ((hexL idl).set i c) = idl ↔ c = (hexL idl)[i]'(by rw [hexL_length, hid]; exact hi)))
    ∧ (parseB ((hexL idl).set i c) = false → parseL ((hexL idl).set i c) = List.replicate 32 0) := by
  have hl : (hexL idl).length = 64 := by rw [hexL_length, hid]
  have hsl : ((hexL idl).set i c).length = 64 := by rw [List.length_set, hl]
  constructor
  · intro hb
    have ha : allHex ((hexL idl).set i c) = true := by
      unfold parseB at hb
      rw [hsl] at hb
      simpa using hb
    have e : parseL ((hexL idl).set i c) = parsed ((hexL idl).set i c) 64 := by unfold parseL; rw [if_pos ⟨hsl, ha⟩]
    have e2 := hexL_parsed _ hsl ha
    rw [e]
    refine ⟨e2, ?_, ?_⟩
    · intro h
      rw [h] at e2
      have h3 : ((hexL idl).set i c)[i]'(by omega) = c := by simp
      rw [← h3]
      simp only [← e2]
    · intro h
      have h3 : (hexL idl).set i c = hexL idl := by rw [h]; exact List.set_getElem_self _
      rw [h3, parsed_hexL idl hid]
  · intro hb
    unfold parseL
    rw [if_neg]
    rintro ⟨_, ha⟩
    unfold parseB at hb
    rw [hsl, ha] at hb
    simp at hb
theorem parseB_take (idl : List UInt8) (i : Nat) (hi : i < 64) : parseB ((hexL idl).take i) = false := by
  have : ((hexL idl).take i).length ≠ 64 := by rw [List.length_take]; omega
  unfold parseB
  rw [decide_eq_false this]
  rfl
theorem and_i64_bounds (x : Int) (m : Nat) (h : m < 2147483648) : 0 ≤ bits .and .i64 x (m : Int) ∧ bits .and .i64 x (m : Int) ≤ (m : Int) := by
  have h2 : (BitVec.ofInt 64 (m : Int)).toNat = m := by
    rw [BitVec.ofInt_natCast, BitVec.toNat_ofNat]; exact Nat.mod_eq_of_lt (by omega)
  have e : bits .and .i64 x (m : Int) = IntKind.i64.wrap ((BitVec.ofInt 64 x &&& BitVec.ofInt 64 (m : Int)).toNat : Int) := rfl
  rw [e, BitVec.toNat_and, h2]
  have h3 : (BitVec.ofInt 64 x).toNat &&& m ≤ m := Nat.and_le_right
  rw [IntWalk.i64_in _ (by omega)]
  omega
theorem turned_bytes (S : ByteArray) (l : List UInt8) (h : S.data.toList = l) (i : Nat) (hi : i < l.length) (c : UInt8) : (S.extract 0 i ++ (⟨#[c]⟩ : ByteArray) ++ S.extract (i + 1) S.size).data.toList = l.set i c := by
  have hz : S.size = l.length := by rw [← h, Array.length_toList]; rfl
  rw [ByteArray.data_append, ByteArray.data_append, ByteArray.data_extract, ByteArray.data_extract, Array.toList_append, Array.toList_append, Array.toList_extract, Array.toList_extract, h, hz]
  simp only [List.extract_eq_take_drop, List.drop_zero, Nat.sub_zero]
  rw [List.set_eq_take_append_cons_drop, if_pos hi, List.append_assoc]
  congr 1
  simp only [List.cons_append, List.nil_append]
  congr 1
  exact List.take_of_length_le (by simp)
theorem cut_bytesS (S : ByteArray) (l : List UInt8) (h : S.data.toList = l) (i : Nat) : (S.extract 0 i).data.toList = l.take i := by
  rw [ByteArray.data_extract, Array.toList_extract, h]
  simp only [List.extract_eq_take_drop, List.drop_zero, Nat.sub_zero]
end Go.Proofs.Ytcgfkgkajifpbaa
