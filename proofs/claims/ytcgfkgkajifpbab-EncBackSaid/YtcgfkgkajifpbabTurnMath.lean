/-
  A checksum tells bytes apart whose bits differ only within a run of 32: no program stands here.
-/
import Derived.Test.YtcgfkgkajifpbabCrc
namespace Go.Proofs.Ytcgfkgkajifpbab
open Go

theorem crcBits_succ' : ∀ (k : Nat) (s : BitVec 32), crcBits (k + 1) s = crcBits k (crcBit s) := by
  intro k
  induction k with
  | zero => intro s; rfl
  | succ k ih => intro s; show crcBit (crcBits (k + 1) s) = crcBit (crcBits k (crcBit s)); rw [ih]
theorem crcBit_xor (x y : BitVec 32) : crcBit (x ^^^ y) = crcBit x ^^^ crcBit y := by
  rw [crcBit_cases, crcBit_cases, crcBit_cases, BitVec.toNat_xor, xor_mod_two, BitVec.ushiftRight_xor_distrib]
  have hx := Nat.mod_two_eq_zero_or_one x.toNat
  have hy := Nat.mod_two_eq_zero_or_one y.toNat
  rcases hx with hx | hx <;> rcases hy with hy | hy <;> rw [hx, hy]
  · simp
  · simp [BitVec.xor_assoc]
  · simp only [Nat.reduceAdd, Nat.reduceMod, if_true, Nat.zero_ne_one, if_false]
    rw [BitVec.xor_assoc, BitVec.xor_assoc, BitVec.xor_comm (y >>> 1)]
  · simp only [Nat.reduceAdd, Nat.reduceMod, if_true, Nat.zero_ne_one, if_false]
    rw [BitVec.xor_assoc, BitVec.xor_comm 3988292384#32, BitVec.xor_assoc (y >>> 1), BitVec.xor_self, BitVec.xor_zero]
theorem crcBit_zero : crcBit 0#32 = 0#32 := by decide
theorem crcBits_zero (k : Nat) : crcBits k 0#32 = 0#32 := by
  induction k with
  | zero => rfl
  | succ k ih => show crcBit (crcBits k 0#32) = _; rw [ih, crcBit_zero]
theorem crcBit_eq_zero {x : BitVec 32} (h : crcBit x = 0#32) : x = 0#32 := by
  rw [crcBit_cases] at h
  have hlt := x.isLt
  split at h
  · rename_i ho
    have h2 : x >>> 1 = 3988292384#32 := by
      have := congrArg (· ^^^ 3988292384#32) h
      simp only [BitVec.xor_assoc, BitVec.xor_self, BitVec.xor_zero, BitVec.zero_xor] at this
      exact this
    have h3 := congrArg BitVec.toNat h2
    rw [BitVec.toNat_ushiftRight, Nat.shiftRight_eq_div_pow] at h3
    have h4 : (3988292384#32).toNat = 3988292384 := rfl
    rw [h4] at h3
    omega
  · rename_i ho
    have h3 := congrArg BitVec.toNat h
    rw [BitVec.toNat_ushiftRight, Nat.shiftRight_eq_div_pow] at h3
    apply BitVec.eq_of_toNat_eq
    have h4 : (0#32).toNat = 0 := rfl
    rw [h4] at h3 ⊢
    omega
theorem crcBits_eq_zero : ∀ (k : Nat) {x : BitVec 32}, crcBits k x = 0#32 → x = 0#32 := by
  intro k
  induction k with
  | zero => intro x h; exact h
  | succ k ih => intro x h; exact ih (crcBit_eq_zero h)

/-- One bit more. -/
def bitVal (d : Bool) : BitVec 32 := if d then 1#32 else 0#32
def bitstep (s : BitVec 32) (d : Bool) : BitVec 32 := crcBit (s ^^^ bitVal d)
def word : List Bool → Nat
  | [] => 0
  | d :: ds => d.toNat + 2 * word ds
theorem word_lt : ∀ ds : List Bool, word ds < 2 ^ ds.length
  | [] => by simp [word]
  | d :: ds => by
    have := word_lt ds
    have hd : d.toNat ≤ 1 := by cases d <;> simp
    simp only [word, List.length_cons, Nat.pow_succ]
    omega
theorem word_zero : ∀ ds : List Bool, word ds = 0 → ∀ d ∈ ds, d = false
  | [], _, d, hd => by simp at hd
  | e :: ds, h, d, hd => by
    simp only [word] at h
    have he : e.toNat = 0 := by omega
    rcases List.mem_cons.1 hd with rfl | hd
    · cases d
      · rfl
      · simp at he
    · exact word_zero ds (by omega) d hd
theorem bitVal_shl (d : Bool) (n : Nat) (h : n < 2 ^ 31) : BitVec.ofNat 32 (d.toNat + 2 * n) = bitVal d ^^^ (BitVec.ofNat 32 n <<< 1) := by
  apply BitVec.eq_of_toNat_eq
  have h31 : (2 : Nat) ^ 31 = 2147483648 := by decide
  rw [h31] at h
  rw [BitVec.toNat_xor, BitVec.toNat_shiftLeft, BitVec.toNat_ofNat, BitVec.toNat_ofNat, Nat.shiftLeft_eq]
  have e1 : n % 2 ^ 32 = n := Nat.mod_eq_of_lt (by omega)
  rw [e1, Nat.mod_eq_of_lt (show n * 2 ^ 1 < 2 ^ 32 by omega)]
  cases d
  · simp [bitVal]; omega
  · have e2 : (bitVal true).toNat = 1 := rfl
    rw [e2]
    have e3 : 1 ^^^ (n * 2 ^ 1) = n * 2 ^ 1 + 1 := by
      apply Nat.eq_of_testBit_eq
      intro i
      rw [Nat.testBit_xor]
      cases i with
      | zero => simp [Nat.testBit_zero]
      | succ i =>
        rw [Nat.testBit_succ, Nat.testBit_succ, Nat.testBit_succ]
        rw [show 1 / 2 = 0 by decide, show n * 2 ^ 1 / 2 = n by omega, show (n * 2 ^ 1 + 1) / 2 = n by omega]
        simp
    rw [e3]
    simp
    omega
theorem crcBit_shl (n : Nat) (h : n < 2 ^ 31) : crcBit (BitVec.ofNat 32 n <<< 1) = BitVec.ofNat 32 n := by
  have h31 : (2 : Nat) ^ 31 = 2147483648 := by decide
  rw [h31] at h
  have e : (BitVec.ofNat 32 n <<< 1).toNat = 2 * n := by
    rw [BitVec.toNat_shiftLeft, BitVec.toNat_ofNat, Nat.shiftLeft_eq, Nat.mod_eq_of_lt (show n < 2 ^ 32 by omega), Nat.mod_eq_of_lt (by omega)]
    omega
  rw [crcBit_cases, if_neg (by rw [e]; omega)]
  apply BitVec.eq_of_toNat_eq
  rw [BitVec.toNat_ushiftRight, e, Nat.shiftRight_eq_div_pow, BitVec.toNat_ofNat, Nat.mod_eq_of_lt (by omega)]
  omega
theorem foldl_word : ∀ (ds : List Bool) (s : BitVec 32), ds.length ≤ 32 → ds.foldl bitstep s = crcBits ds.length (s ^^^ BitVec.ofNat 32 (word ds)) := by
  intro ds
  induction ds with
  | nil => intro s _; simp [word, crcBits]
  | cons d ds ih =>
    intro s h
    have hl : ds.length ≤ 31 := by simpa using h
    have hw : word ds < 2 ^ 31 := Nat.lt_of_lt_of_le (word_lt ds) (Nat.pow_le_pow_right (by omega) hl)
    rw [List.foldl_cons, ih _ (by omega), List.length_cons, crcBits_succ']
    congr 1
    show bitstep s d ^^^ _ = crcBit (s ^^^ BitVec.ofNat 32 (d.toNat + 2 * word ds))
    rw [bitVal_shl d _ hw, ← BitVec.xor_assoc, crcBit_xor, crcBit_shl _ hw]
    rfl
theorem foldl_false : ∀ (ds : List Bool) (s : BitVec 32), (∀ d ∈ ds, d = false) → ds.foldl bitstep s = crcBits ds.length s := by
  intro ds
  induction ds with
  | nil => intro s _; rfl
  | cons d ds ih =>
    intro s h
    obtain rfl : d = false := h d (by simp)
    rw [List.foldl_cons, ih _ (fun x hx => h x (by simp [hx])), List.length_cons, crcBits_succ']
    congr 1
    simp [bitstep, bitVal]
theorem bitVal_xor (d e : Bool) : bitVal (d ^^ e) = bitVal d ^^^ bitVal e := by cases d <;> cases e <;> decide
theorem foldl_diff : ∀ (ds es : List Bool) (s t : BitVec 32), ds.length = es.length → ds.foldl bitstep s ^^^ es.foldl bitstep t = (List.zipWith (· ^^ ·) ds es).foldl bitstep (s ^^^ t) := by
  intro ds
  induction ds with
  | nil => intro es s t h; obtain rfl : es = [] := List.eq_nil_of_length_eq_zero h.symm; rfl
  | cons d ds ih =>
    intro es s t h
    match es, h with
    | e :: es, h =>
      rw [List.foldl_cons, List.foldl_cons, ih _ _ _ (by simpa using h), List.zipWith_cons_cons, List.foldl_cons]
      congr 1
      unfold bitstep
      rw [← crcBit_xor, bitVal_xor]
      congr 1
      rw [BitVec.xor_assoc, BitVec.xor_assoc, ← BitVec.xor_assoc (bitVal d), BitVec.xor_comm (bitVal d) t, BitVec.xor_assoc t]
/-- Two rows of bits that differ only within a run of 32 come to one register just if they are the same. -/
theorem bits_turn (ds es : List Bool) (s : BitVec 32) (F : Nat) (hl : ds.length = es.length) (hout : ∀ p, p < F ∨ F + 32 ≤ p → ds[p]? = es[p]?) (h : ds.foldl bitstep s = es.foldl bitstep s) : ds = es := by
  obtain ⟨X, hX⟩ : ∃ X, X = List.zipWith (· ^^ ·) ds es := ⟨_, rfl⟩
  have hXg : ∀ p, (h1 : p < ds.length) → X[p]? = some (ds[p] ^^ es[p]'(hl ▸ h1)) := by
    intro p h1
    rw [hX, List.getElem?_zipWith, List.getElem?_eq_getElem h1, List.getElem?_eq_getElem (show p < es.length by omega)]
  have hXl : X.length = ds.length := by rw [hX, List.length_zipWith]; omega
  have hXout : ∀ p, p < F ∨ F + 32 ≤ p → ∀ d, X[p]? = some d → d = false := by
    intro p hp d hd
    have h1 : p < ds.length := by have := (List.getElem?_eq_some_iff.1 hd).1; omega
    rw [hXg p h1] at hd
    have h2 := hout p hp
    rw [List.getElem?_eq_getElem h1, List.getElem?_eq_getElem (show p < es.length by omega)] at h2
    injection h2 with h2
    injection hd with hd
    rw [← hd, h2]; simp
  have h0 : X.foldl bitstep 0#32 = 0#32 := by
    have h1 := foldl_diff ds es s s hl
    rw [h, BitVec.xor_self, BitVec.xor_self, ← hX] at h1
    exact h1.symm
  have hsplit : X = X.take F ++ ((X.drop F).take 32 ++ (X.drop F).drop 32) := by rw [List.take_append_drop, List.take_append_drop]
  rw [hsplit, List.foldl_append, List.foldl_append] at h0
  have hA : ∀ d ∈ X.take F, d = false := by
    intro d hd
    obtain ⟨p, hp, he⟩ := List.mem_iff_getElem.1 hd
    have hp' : p < F ∧ p < X.length := by simp at hp; omega
    exact hXout p (Or.inl hp'.1) d (by rw [List.getElem?_eq_getElem hp'.2]; simpa using he)
  have hZ : ∀ d ∈ (X.drop F).drop 32, d = false := by
    intro d hd
    obtain ⟨p, hp, he⟩ := List.mem_iff_getElem.1 hd
    have hp' : F + 32 + p < X.length := by simp at hp; omega
    refine hXout (F + 32 + p) (Or.inr (by omega)) d ?_
    rw [List.getElem?_eq_getElem hp', ← he]
    simp
  rw [foldl_false _ _ hA, crcBits_zero, foldl_false _ _ hZ, foldl_word _ _ (by simp; omega)] at h0
  have h1 := crcBits_eq_zero _ (crcBits_eq_zero _ h0)
  rw [BitVec.zero_xor] at h1
  have hwlt : word ((X.drop F).take 32) < 2 ^ 32 := Nat.lt_of_lt_of_le (word_lt _) (Nat.pow_le_pow_right (by omega) (by simp; omega))
  have hw : word ((X.drop F).take 32) = 0 := by
    have := congrArg BitVec.toNat h1
    rw [BitVec.toNat_ofNat, Nat.mod_eq_of_lt hwlt] at this
    exact this
  have hW := word_zero _ hw
  have hall : ∀ d ∈ X, d = false := by
    intro d hd
    rw [hsplit] at hd
    rcases List.mem_append.1 hd with hd | hd
    · exact hA d hd
    · rcases List.mem_append.1 hd with hd | hd
      · exact hW d hd
      · exact hZ d hd
  apply List.ext_getElem hl
  intro p h1 h2
  have h3 := hXg p h1
  have h4 := hall _ (List.mem_of_getElem? h3)
  simpa using h4

/-- The bits of a byte, the lowest first; of bytes. -/
def bitsOf (c : UInt8) : List Bool := (List.range 8).map (fun q => c.toNat.testBit q)
def allBits (l : List UInt8) : List Bool := l.flatMap bitsOf
theorem bitsOf_length (c : UInt8) : (bitsOf c).length = 8 := by simp [bitsOf]
theorem word_bitsOf (c : UInt8) : word (bitsOf c) = c.toNat := by
  have h := c.toNat_lt
  have tb : ∀ n q, (Nat.testBit n q).toNat = n / 2 ^ q % 2 := by
    intro n q
    rw [Nat.testBit_eq_decide_div_mod_eq]
    have := Nat.mod_two_eq_zero_or_one (n / 2 ^ q)
    rcases this with h | h <;> simp [h]
  have e : bitsOf c = [c.toNat.testBit 0, c.toNat.testBit 1, c.toNat.testBit 2, c.toNat.testBit 3, c.toNat.testBit 4, c.toNat.testBit 5, c.toNat.testBit 6, c.toNat.testBit 7] := rfl
  rw [e]
  simp only [word, tb]
  omega
theorem crcByte_bits (s : BitVec 32) (c : UInt8) : crcByte s c = (bitsOf c).foldl bitstep s := by
  rw [foldl_word _ _ (by rw [bitsOf_length]; omega), bitsOf_length, word_bitsOf]; rfl
theorem foldl_bits : ∀ (l : List UInt8) (s : BitVec 32), l.foldl crcByte s = (allBits l).foldl bitstep s := by
  intro l
  induction l with
  | nil => intro s; rfl
  | cons c l ih => intro s; rw [List.foldl_cons, ih, crcByte_bits]; simp [allBits, List.foldl_append]
theorem allBits_length (l : List UInt8) : (allBits l).length = 8 * l.length := by
  induction l with
  | nil => rfl
  | cons c l ih =>
    show (bitsOf c ++ allBits l).length = _
    rw [List.length_append, bitsOf_length, ih, List.length_cons]; omega
theorem allBits_get : ∀ (l : List UInt8) (p : Nat), (h : p / 8 < l.length) → (allBits l)[p]? = some ((l[p / 8]).toNat.testBit (p % 8)) := by
  intro l
  induction l with
  | nil => intro p h; simp at h
  | cons c l ih =>
    intro p h
    show (bitsOf c ++ allBits l)[p]? = _
    by_cases hp : p < 8
    · rw [List.getElem?_append_left (by rw [bitsOf_length]; omega)]
      have e0 : p / 8 = 0 := by omega
      have e1 : p % 8 = p := by omega
      simp only [e0, e1, List.getElem_cons_zero]
      simp [bitsOf, List.getElem?_map, List.getElem?_range hp]
    · rw [List.getElem?_append_right (by rw [bitsOf_length]; omega), bitsOf_length]
      have e0 : (p - 8) / 8 + 1 = p / 8 := by omega
      have e1 : (p - 8) % 8 = p % 8 := by omega
      have hl : (p - 8) / 8 < l.length := by simp at h; omega
      rw [ih (p - 8) hl, e1]
      simp only [← e0, List.getElem_cons_succ]
theorem allBits_inj {l m : List UInt8} (hl : l.length = m.length) (h : allBits l = allBits m) : l = m := by
  apply List.ext_getElem hl
  intro j h1 h2
  apply UInt8.toNat_inj.1
  apply Nat.eq_of_testBit_eq
  intro q
  by_cases hq : q < 8
  · have e0 : (8 * j + q) / 8 = j := by omega
    have e1 : (8 * j + q) % 8 = q := by omega
    have h3 := allBits_get l (8 * j + q) (by omega)
    have h4 := allBits_get m (8 * j + q) (by omega)
    rw [h, h4] at h3
    simp only [e0, e1] at h3
    injection h3 with h3
    exact h3.symm
  · have a := l[j].toNat_lt
    have b := m[j].toNat_lt
    have hp : 2 ^ 8 ≤ 2 ^ q := Nat.pow_le_pow_right (by omega) (by omega)
    rw [Nat.testBit_lt_two_pow (by omega), Nat.testBit_lt_two_pow (by omega)]

/-- The bits of two lists agree but for the run of 32 from F on. -/
def Agree (F : Nat) (l m : List UInt8) : Prop := l.length = m.length ∧ ∀ p, p < F ∨ F + 32 ≤ p → (allBits l)[p]? = (allBits m)[p]?
theorem Agree.refl (F : Nat) (l : List UInt8) : Agree F l l := ⟨rfl, fun _ _ => rfl⟩
theorem Agree.sums {F : Nat} {l m : List UInt8} (h : Agree F l m) : crc m = crc l ↔ m = l := by
  constructor
  · intro hc
    have h1 : crcRun m = crcRun l := by
      have := congrArg (fun x => ~~~ x) hc
      simpa [crc] using this
    unfold crcRun at h1
    rw [foldl_bits, foldl_bits] at h1
    exact allBits_inj h.1.symm (bits_turn _ _ _ F (by rw [allBits_length, allBits_length, h.1]) (fun p hp => (h.2 p hp).symm) h1)
  · intro hc; rw [hc]
/-- One bit of the run is turned. -/
def turn (m : List UInt8) (i : Nat) : List UInt8 := m.set (i / 8) (m.getD (i / 8) 0 ^^^ UInt8.ofNat (2 ^ (i % 8)))
theorem turn_length (m : List UInt8) (i : Nat) : (turn m i).length = m.length := by simp [turn]
theorem Agree.turn {F i : Nat} {l m : List UInt8} (h : Agree F l m) (h1 : F ≤ i) (h2 : i < F + 32) : Agree F l (turn m i) := by
  refine ⟨by rw [turn_length]; exact h.1, fun p hp => ?_⟩
  rw [h.2 p hp]
  by_cases hpl : p / 8 < m.length
  · rw [allBits_get m p hpl, allBits_get _ p (by rw [turn_length]; exact hpl)]
    congr 1
    unfold Go.Proofs.Ytcgfkgkajifpbab.turn
    rw [List.getElem_set]
    split
    · rename_i he
      have hq : i % 8 ≠ p % 8 := by omega
      have hlt : 2 ^ (i % 8) < 2 ^ 8 := Nat.pow_lt_pow_of_lt (by omega) (by omega)
      have hg : m.getD (i / 8) 0 = m[p / 8] := by simp [List.getD_eq_getElem?_getD, he, List.getElem?_eq_getElem hpl]
      rw [hg, UInt8.toNat_xor, UInt8.toNat_ofNat', Nat.mod_eq_of_lt hlt, Nat.testBit_xor, Nat.testBit_two_pow]
      simp [hq]
    · rfl
  · rw [List.getElem?_eq_none (by rw [allBits_length]; omega), List.getElem?_eq_none (by rw [allBits_length, turn_length]; omega)]
theorem and_i64_bounds (x : Int) (m : Nat) (h : m < 2147483648) : 0 ≤ bits .and .i64 x (m : Int) ∧ bits .and .i64 x (m : Int) ≤ (m : Int) := by
  have h2 : (BitVec.ofInt 64 (m : Int)).toNat = m := by
    rw [BitVec.ofInt_natCast, BitVec.toNat_ofNat]; exact Nat.mod_eq_of_lt (by omega)
  have e : bits .and .i64 x (m : Int) = IntKind.i64.wrap ((BitVec.ofInt 64 x &&& BitVec.ofInt 64 (m : Int)).toNat : Int) := rfl
  rw [e, BitVec.toNat_and, h2]
  have h3 : (BitVec.ofInt 64 x).toNat &&& m ≤ m := Nat.and_le_right
  rw [IntWalk.i64_in _ (by omega)]
  omega
theorem pow_mod256 (q : Nat) (h : q < 8) : (2 : Int) ^ q % 256 = ((2 ^ q : Nat) : Int) := by
  have hlt : 2 ^ q < 2 ^ 8 := Nat.pow_lt_pow_of_lt (by omega) (by omega)
  have e : ((2 : Int) ^ q) = ((2 ^ q : Nat) : Int) := by simp
  rw [e]
  generalize (2 ^ q : Nat) = z at hlt ⊢
  omega
theorem turn_val (c : UInt8) (q : Nat) (h : q < 8) : bits .xor .u8 (c.toNat : Int) ((2 ^ q : Nat) : Int) = ((c ^^^ UInt8.ofNat (2 ^ q)).toNat : Int) := by
  have hlt : 2 ^ q < 2 ^ 8 := Nat.pow_lt_pow_of_lt (by omega) (by omega)
  rw [u8_xor_nat _ _ c.toNat_lt (by omega), UInt8.toNat_xor, UInt8.toNat_ofNat', Nat.mod_eq_of_lt hlt]
end Go.Proofs.Ytcgfkgkajifpbab
