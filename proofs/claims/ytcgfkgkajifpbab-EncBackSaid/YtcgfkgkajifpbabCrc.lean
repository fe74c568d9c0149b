/-
  CRC-32 as plain functions over BitVec 32: no program stands here.
-/
import Derived.Test.YtcgfkgkajifpbabRows
import Derived.WalkKit
import Derived.Laws.BitsAllLaws
namespace Go.Proofs.Ytcgfkgkajifpbab
open Go

theorem b32_xor (x y : BitVec 32) : bits .xor .u32 (x.toNat : Int) (y.toNat : Int) = ((x ^^^ y).toNat : Int) := by
  rw [u32_xor_nat _ _ (by have := x.isLt; omega) (by have := y.isLt; omega), BitVec.toNat_xor]
theorem b32_and (x y : BitVec 32) : bits .and .u32 (x.toNat : Int) (y.toNat : Int) = ((x &&& y).toNat : Int) := by
  rw [u32_and_nat _ _ (by have := x.isLt; omega) (by have := y.isLt; omega), BitVec.toNat_and]
theorem b32_or (x y : BitVec 32) : bits .or .u32 (x.toNat : Int) (y.toNat : Int) = ((x ||| y).toNat : Int) := by
  rw [u32_or_nat _ _ (by have := x.isLt; omega) (by have := y.isLt; omega), BitVec.toNat_or]

/-- One bit of the checksum, as the program has it. -/
def crcBit (s : BitVec 32) : BitVec 32 := (s >>> 1) ^^^ (3988292384#32 &&& -(s &&& 1#32))
def crcBits : Nat → BitVec 32 → BitVec 32
  | 0, s => s
  | k + 1, s => crcBit (crcBits k s)
def crcByte (s : BitVec 32) (c : UInt8) : BitVec 32 := crcBits 8 (s ^^^ BitVec.ofNat 32 c.toNat)
def crcRun (l : List UInt8) : BitVec 32 := l.foldl crcByte 4294967295#32
def crc (l : List UInt8) : BitVec 32 := ~~~ (crcRun l)
theorem crcRun_snoc (l : List UInt8) (c : UInt8) : crcRun (l ++ [c]) = crcByte (crcRun l) c := by
  unfold crcRun; rw [List.foldl_append]; rfl
theorem take_snoc' (l : List UInt8) (k : Nat) (h : k < l.length) : l.take (k + 1) = l.take k ++ [l[k]] := by
  rw [List.take_succ_eq_append_getElem h]
theorem crc_start (s : BitVec 32) (c : UInt8) : bits .xor .u32 (s.toNat : Int) (c.toNat : Int) = ((s ^^^ BitVec.ofNat 32 c.toNat).toNat : Int) := by
  rw [← b32_xor, BitVec.toNat_ofNat, Nat.mod_eq_of_lt (by have := c.toNat_lt; omega)]
theorem crc_not (s : BitVec 32) : bits .xor .u32 IntKind.u32.max (s.toNat : Int) = ((~~~ s).toNat : Int) := by
  have := b32_xor 4294967295#32 s
  rw [show 4294967295#32 ^^^ s = ~~~ s by rw [show 4294967295#32 = BitVec.allOnes 32 by decide, BitVec.allOnes_xor]] at this
  exact this
theorem crc_step (s : BitVec 32) : bits .xor .u32 ((s.toNat : Int) / 2) (bits .and .u32 3988292384 (-bits .and .u32 (s.toNat : Int) 1 % 4294967296)) = ((crcBit s).toNat : Int) := by
  have e1 : bits .and .u32 (s.toNat : Int) 1 = ((s &&& 1#32).toNat : Int) := b32_and s 1#32
  have e2 : (-((s &&& 1#32).toNat : Int)) % 4294967296 = ((-(s &&& 1#32)).toNat : Int) := by
    rw [BitVec.toNat_neg]
    have := (s &&& 1#32).isLt
    omega
  have e3 : ((s.toNat : Int) / (2 : Int)) = ((s >>> 1).toNat : Int) := by
    rw [BitVec.toNat_ushiftRight, Nat.shiftRight_eq_div_pow]; omega
  rw [e1, e2, e3]
  have e4 := b32_and 3988292384#32 (-(s &&& 1#32))
  rw [show ((3988292384#32).toNat : Int) = 3988292384 from rfl] at e4
  rw [e4, b32_xor]; rfl
theorem and_one_cases (z : BitVec 32) : z &&& 1#32 = if z.toNat % 2 = 1 then 1#32 else 0#32 := by
  apply BitVec.eq_of_toNat_eq
  rw [BitVec.toNat_and]
  have : (1#32).toNat = 1 := rfl
  rw [this, Nat.and_one_is_mod]
  split
  · simp; omega
  · simp; omega
theorem crcBit_cases (z : BitVec 32) : crcBit z = if z.toNat % 2 = 1 then (z >>> 1) ^^^ 3988292384#32 else z >>> 1 := by
  unfold crcBit
  rw [and_one_cases]
  split
  · rfl
  · simp
/-- The register between two bits, as the document's answer has it. -/
def refMid (k : Nat) (s : BitVec 32) (c : UInt8) : BitVec 32 := crcBits k (s ^^^ BitVec.ofNat 32 c.toNat) ^^^ (BitVec.ofNat 32 c.toNat >>> k)
theorem refMid_zero (s : BitVec 32) (c : UInt8) : refMid 0 s c = s := by
  unfold refMid crcBits
  rw [BitVec.ushiftRight_zero, BitVec.xor_assoc, BitVec.xor_self, BitVec.xor_zero]
theorem refMid_eight (s : BitVec 32) (c : UInt8) : refMid 8 s c = crcByte s c := by
  unfold refMid crcByte
  have : (BitVec.ofNat 32 c.toNat) >>> 8 = 0#32 := by
    apply BitVec.eq_of_toNat_eq
    have := c.toNat_lt
    rw [BitVec.toNat_ushiftRight, BitVec.toNat_ofNat, Nat.shiftRight_eq_div_pow, Nat.mod_eq_of_lt (by omega)]
    show c.toNat / 256 = 0
    omega
  rw [this, BitVec.xor_zero]
theorem xor_mod_two (a b : Nat) : (a ^^^ b) % 2 = (a % 2 + b % 2) % 2 := by
  have h := Nat.testBit_xor a b 0
  rw [Nat.testBit_zero, Nat.testBit_zero, Nat.testBit_zero] at h
  have ha := Nat.mod_two_eq_zero_or_one a
  have hb := Nat.mod_two_eq_zero_or_one b
  have hx := Nat.mod_two_eq_zero_or_one (a ^^^ b)
  rcases ha with ha | ha <;> rcases hb with hb | hb <;> rcases hx with hx | hx <;> simp [ha, hb, hx] at h ⊢
theorem shr_mod_two (c : UInt8) (j : Nat) : ((BitVec.ofNat 32 c.toNat) >>> j).toNat = c.toNat / 2 ^ j := by
  have := c.toNat_lt
  rw [BitVec.toNat_ushiftRight, BitVec.toNat_ofNat, Nat.shiftRight_eq_div_pow, Nat.mod_eq_of_lt (by omega)]
theorem and1_u32 (x : BitVec 32) : bits .and .u32 (x.toNat : Int) 1 = ((x.toNat % 2 : Nat) : Int) := by
  have := u32_and_nat x.toNat 1 (by have := x.isLt; omega) (by omega)
  rw [Nat.and_one_is_mod] at this
  exact this
theorem and1_u8 (x : Nat) (h : x < 256) : bits .and .u8 (x : Int) 1 = ((x % 2 : Nat) : Int) := by
  have := u8_and_nat x 1 h (by omega)
  rw [Nat.and_one_is_mod] at this
  exact this
theorem div_pow_lt (c : UInt8) (j : Nat) : c.toNat / 2 ^ j < 256 := Nat.lt_of_le_of_lt (Nat.div_le_self _ _) c.toNat_lt
theorem test_mid (j : Nat) (s : BitVec 32) (c : UInt8) :
    ((!(bits .and .u32 ((refMid j s c).toNat : Int) 1 == 1) == (bits .and .u8 ((c.toNat : Int) / 2 ^ j) 1 == 1)) = true) ↔ (crcBits j (s ^^^ BitVec.ofNat 32 c.toNat)).toNat % 2 = 1 := by
  have e : ((c.toNat : Int) / 2 ^ j) = ((c.toNat / 2 ^ j : Nat) : Int) := by simp
  rw [e, and1_u32, and1_u8 _ (div_pow_lt c j)]
  have hm : (refMid j s c).toNat % 2 = ((crcBits j (s ^^^ BitVec.ofNat 32 c.toNat)).toNat % 2 + c.toNat / 2 ^ j % 2) % 2 := by
    unfold refMid
    rw [BitVec.toNat_xor, xor_mod_two, shr_mod_two]
  rw [hm]
  generalize (crcBits j (s ^^^ BitVec.ofNat 32 c.toNat)).toNat = A
  generalize c.toNat / 2 ^ j = B
  have ha := Nat.mod_two_eq_zero_or_one A
  have hb := Nat.mod_two_eq_zero_or_one B
  rcases ha with ha | ha <;> rcases hb with hb | hb <;> rw [ha, hb] <;> decide
theorem half_mid (j : Nat) (s : BitVec 32) (c : UInt8) :
    (((refMid j s c).toNat : Int) / (2 : Int)) = ((((crcBits j (s ^^^ BitVec.ofNat 32 c.toNat)) >>> 1) ^^^ (BitVec.ofNat 32 c.toNat >>> (j + 1))).toNat : Int) := by
  have e : (refMid j s c) >>> 1 = ((crcBits j (s ^^^ BitVec.ofNat 32 c.toNat)) >>> 1) ^^^ (BitVec.ofNat 32 c.toNat >>> (j + 1)) := by
    unfold refMid
    rw [BitVec.ushiftRight_xor_distrib, BitVec.shiftRight_add]
  rw [← e, BitVec.toNat_ushiftRight, Nat.shiftRight_eq_div_pow]
  omega
theorem mid_hit (j : Nat) (s : BitVec 32) (c : UInt8) (h : (!(bits .and .u32 ((refMid j s c).toNat : Int) 1 == 1) == (bits .and .u8 ((c.toNat : Int) / 2 ^ j) 1 == 1)) = true) :
    bits .xor .u32 (((refMid j s c).toNat : Int) / 2) 3988292384 = ((refMid (j + 1) s c).toNat : Int) := by
  rw [test_mid] at h
  rw [half_mid]
  have e := b32_xor (((crcBits j (s ^^^ BitVec.ofNat 32 c.toNat)) >>> 1) ^^^ (BitVec.ofNat 32 c.toNat >>> (j + 1))) 3988292384#32
  rw [show ((3988292384#32).toNat : Int) = 3988292384 from rfl] at e
  rw [e]
  show _ = ((crcBit (crcBits j (s ^^^ BitVec.ofNat 32 c.toNat)) ^^^ (BitVec.ofNat 32 c.toNat >>> (j + 1))).toNat : Int)
  rw [crcBit_cases, if_pos h, BitVec.xor_assoc, BitVec.xor_assoc, BitVec.xor_comm (BitVec.ofNat 32 c.toNat >>> (j + 1))]
theorem mid_miss (j : Nat) (s : BitVec 32) (c : UInt8) (h : (!(bits .and .u32 ((refMid j s c).toNat : Int) 1 == 1) == (bits .and .u8 ((c.toNat : Int) / 2 ^ j) 1 == 1)) = false) :
    (((refMid j s c).toNat : Int) / (2 : Int)) = ((refMid (j + 1) s c).toNat : Int) := by
  have h' : ¬ (crcBits j (s ^^^ BitVec.ofNat 32 c.toNat)).toNat % 2 = 1 := by
    rw [← test_mid, h]; decide
  rw [half_mid]
  show _ = ((crcBit (crcBits j (s ^^^ BitVec.ofNat 32 c.toNat)) ^^^ (BitVec.ofNat 32 c.toNat >>> (j + 1))).toNat : Int)
  rw [crcBit_cases, if_neg h']
theorem crc_not' (s : BitVec 32) : bits .xor .u32 (s.toNat : Int) 4294967295 = ((~~~ s).toNat : Int) := by
  have := b32_xor s 4294967295#32
  rw [show s ^^^ 4294967295#32 = ~~~ s by rw [show 4294967295#32 = BitVec.allOnes 32 by decide, BitVec.xor_allOnes]] at this
  exact this
end Go.Proofs.Ytcgfkgkajifpbab
