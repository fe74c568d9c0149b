/-
  The words that a block gives to the rounds.
-/
import Derived.Test.YtkgclhkpncegnaaDoorTurned
import Derived.Test.YtkgclhkpncegnaaDoorKit
import Derived.BigRegion
import Derived.StillTail
import Derived.Test.YtkgclhkpncegnaaDoorTail
import Derived.WalkSpells
namespace Go.Proofs.YtkgclhkpncegnaaDoor
open Go.RowKit
set_option linter.unusedSimpArgs false
set_option linter.unusedVariables false

def byteAt (l : List UInt8) (i : Nat) : BitVec 32 := BitVec.ofNat 32 (l.getD i 0).toNat
def wordAt (l : List UInt8) (k : Nat) : BitVec 32 := byteAt l (4 * k) <<< 24 ||| byteAt l (4 * k + 1) <<< 16 ||| byteAt l (4 * k + 2) <<< 8 ||| byteAt l (4 * k + 3)
/-- The word of a round. -/
def sch (l : List UInt8) (k : Nat) : BitVec 32 :=
  if h : k < 16 then wordAt l k else shiftB (sch l (k - 2)) 17 19 10 + sch l (k - 7) + shiftB (sch l (k - 15)) 7 18 3 + sch l (k - 16)
termination_by k
decreasing_by all_goals omega
/-- The words that are there after some steps. -/
def schTo (l : List UInt8) (i k : Nat) : BitVec 32 := if k < i then sch l k else 0
def wrow (W : Nat → BitVec 32) (n : Nat) : Array Value := ((List.range n).map fun k => vw (W k)).toArray
theorem wrow_size (W : Nat → BitVec 32) (n : Nat) : (wrow W n).size = n := by simp [wrow]
theorem wrow_get (W : Nat → BitVec 32) (n k : Nat) (h : k < n) : (wrow W n)[k]? = some (vw (W k)) := by simp [wrow, h]
theorem wrow_set (l : List UInt8) (i n : Nat) (h : i < n) : (wrow (schTo l i) n).setIfInBounds i (vw (sch l i)) = wrow (schTo l (i + 1)) n := by
  apply Array.ext
  · simp [wrow]
  · intro k h1 h2
    have hk : k < n := by simpa [wrow_size] using h1
    rw [Array.getElem_setIfInBounds]
    by_cases e : i = k
    · subst e; simp [wrow, schTo]
    · rw [if_neg e]
      have : (k < i) = (k < i + 1) := by apply propext; omega
      simp [wrow, schTo, this]
    · simpa [wrow_size] using hk
theorem wrow_oneCell (W : Nat → BitVec 32) (n : Nat) : (wrow W n).all (·.oneCell') = true := by
  rw [Array.all_eq_true]
  intro i hi
  simp [wrow, vw]
  rfl
theorem wrow_zero (l : List UInt8) : wrow (schTo l 0) 64 = Array.replicate 64 (.int .u32 0) := by
  have : schTo l 0 = fun _ => 0 := by funext k; simp [schTo]
  rw [this]
  rfl

theorem byte_shl (x : UInt8) (j c : Nat) (hc : c = 2 ^ j) (hj : j ≤ 24) : (x.toNat : Int) * (c : Int) = ((BitVec.ofNat 32 x.toNat <<< j).toNat : Int) := by
  have hx := x.toNat_lt
  have h1 : (2 : Nat) ^ j ≤ 2 ^ 24 := Nat.pow_le_pow_right (by omega) hj
  have h2 : x.toNat * 2 ^ j ≤ 255 * 2 ^ 24 := Nat.mul_le_mul (by omega) h1
  have e : (BitVec.ofNat 32 x.toNat).toNat = x.toNat := by rw [BitVec.toNat_ofNat, Nat.mod_eq_of_lt (by omega)]
  rw [BitVec.toNat_shiftLeft, e, Nat.shiftLeft_eq, Nat.mod_eq_of_lt (by omega), hc, Int.natCast_mul]
def wordB (x0 x1 x2 x3 : UInt8) : BitVec 32 := BitVec.ofNat 32 x0.toNat <<< 24 ||| BitVec.ofNat 32 x1.toNat <<< 16 ||| BitVec.ofNat 32 x2.toNat <<< 8 ||| BitVec.ofNat 32 x3.toNat
theorem word_bytes (x0 x1 x2 x3 : UInt8) :
    bits .or .u32 (bits .or .u32 (bits .or .u32 ((x0.toNat : Int) * 16777216) ((x1.toNat : Int) * 65536)) ((x2.toNat : Int) * 256)) (x3.toNat : Int)
      = ((wordB x0 x1 x2 x3).toNat : Int) := by
  unfold wordB
  have e3 : (x3.toNat : Int) = ((BitVec.ofNat 32 x3.toNat).toNat : Int) := by
    have := x3.toNat_lt
    rw [BitVec.toNat_ofNat, Nat.mod_eq_of_lt (by omega)]
  have h0 := byte_shl x0 24 16777216 (by decide) (by omega)
  have h1 := byte_shl x1 16 65536 (by decide) (by omega)
  have h2 := byte_shl x2 8 256 (by decide) (by omega)
  rw [show ((16777216 : Nat) : Int) = 16777216 from rfl] at h0
  rw [show ((65536 : Nat) : Int) = 65536 from rfl] at h1
  rw [show ((256 : Nat) : Int) = 256 from rfl] at h2
  rw [h0, h1, h2, e3, b32_or, b32_or, b32_or]
theorem b32_add (x y : BitVec 32) : ((x.toNat : Int) + (y.toNat : Int)) % 4294967296 = ((x + y).toNat : Int) := by
  rw [BitVec.toNat_add, Int.natCast_emod, Int.natCast_add]; rfl
theorem sum_words (a b c d : BitVec 32) : ((a.toNat : Int) + b.toNat + c.toNat + d.toNat) % 4294967296 = ((a + b + c + d).toNat : Int) := by
  rw [BitVec.toNat_add, BitVec.toNat_add, BitVec.toNat_add]
  omega
theorem wrow_all (l : List UInt8) : wrow (schTo l 64) 64 = wrow (sch l) 64 := by
  unfold wrow
  apply congrArg List.toArray
  apply List.map_congr_left
  intro k hk
  have : k < 64 := by simpa using hk
  simp [schTo, this]
theorem sch_low (l : List UInt8) (k : Nat) (h : k < 16) : sch l k = wordAt l k := by rw [sch, dif_pos h]
theorem sch_high (l : List UInt8) (j : Nat) : sch l (j + 16) = shiftB (sch l (j + 14)) 17 19 10 + sch l (j + 9) + shiftB (sch l (j + 1)) 7 18 3 + sch l j := by
  rw [sch, dif_neg (by omega)]
  rfl

/-- Bytes of a block, one by one. -/
def BlockAt (w : World) (b o : Nat) (l : List UInt8) : Prop := ∀ i, i < 64 → w.cell? ⟨b, o + i, none⟩ = some (.int .u8 ((l.getD i 0).toNat : Int))

set_option maxHeartbeats 2000000 in
set_option maxRecDepth 100000 in
theorem words_any (b o cap : Nat) (l : List UInt8) (w : World) (hl : l.length = 64) (hb : BlockAt w b o l) :
    Calls Tryd.prog 43 #[.slice (some ⟨b, o, none⟩) 64 cap] w fun e w' => e = .returned (.agg (wrow (sch l) 64)) ∧ Below w.heap.size w w' := by
  have hz := wrow_zero l
  obtain ⟨A, hA⟩ : ∃ A, A = w.alloc (.cells (Array.replicate 64 (.int .u32 0)) 89) := ⟨_, rfl⟩
  have hbA : Below w.heap.size w A := by rw [hA]; exact (Below.refl _ w).alloc (Nat.le_refl _) _
  have hAs : A.heap.size = w.heap.size + 1 := by rw [hA]; simp
  have hA0 : A.heap[w.heap.size]? = some (.cells (wrow (schTo l 0) 64) 89 (0, 0)) := by rw [hz, hA]; exact heap_alloc_new _ _
  have HB := Lib.hid hb
  have HZ := Lib.hid hz
  have HBA := Lib.hid hbA
  have HAS := Lib.hid hAs
  have HA0 := Lib.hid hA0
  have HA := Lib.hid hA
  obtain ⟨X, hX⟩ : ∃ X, X = wrow (sch l) 64 := ⟨_, rfl⟩
  have hXz : X.size = 64 := by rw [hX, wrow_size]
  have hX1 : X.all (·.oneCell') = true := by rw [hX]; exact wrow_oneCell _ _
  have hXs : (Tryd.prog.info? 89).map (·.size) = some X.size := by rw [hXz]; kernel_rfl
  have h64 : (wrow (schTo l 0) 64).size = X.size := by rw [wrow_size, hXz]
  rw [← hX]
  have HX1 := Lib.hid hX1
  have HXS := Lib.hid hXs
  have H64 := Lib.hid h64
  have HX := Lib.hid hX
  clear hb hz hbA hAs hA0 hA hX1 hXs h64 hX hXz
  go_enter Tryd.func43, Tryd.ntmps43
  go_wp2_with fail
  go_loopw [4, 6] (fun _ s6 wr => ∃ k : Nat, k ≤ 16 ∧ s6 = .int .i64 (k : Int) ∧ wr.heap[w.heap.size + 1]? = some (.cells (wrow (schTo l k) 64) 89 (0, 0)) ∧ Below (w.heap.size + 1) A wr) (fun _ s6 _ => 16 - (intOf s6).toNat)
  case atStart =>
    refine ⟨0, by omega, rfl, ?_, ?_⟩
    · rw [HZ.out, show w.heap.size + 1 = (w.alloc (.cells (Array.replicate 64 (.int .u32 0)) 89)).heap.size by simp]
      exact heap_alloc_new _ _
    · rw [HA.out]
      exact (Below.refl _ _).alloc (by simp) _
  case round =>
    obtain ⟨k, hk, rfl, hg, hbr⟩ := hrel
    have HG := Lib.hid hg
    clear hg
    by_cases hlt : k < 16
    · have hbw : BlockAt wr b o l := fun i hi => cell_later (HBA.out.trans (hbr.mono (by omega))) (HB.out i hi)
      have c0 := hbw (4 * k) (by omega)
      have c1 := hbw (4 * k + 1) (by omega)
      have c2 := hbw (4 * k + 2) (by omega)
      have c3 := hbw (4 * k + 3) (by omega)
      have cz : wr.cell? ⟨w.heap.size + 1, k, none⟩ = some (.int .u32 0) := by
        rw [cell_of_block HG.out, wrow_get _ _ _ (by omega)]
        simp [schTo, vw]
      have fz : wr.frozen? ⟨w.heap.size + 1, k, none⟩ = false := free_of_block HG.out
      clear hbw
      obtain ⟨x0, hx0⟩ : ∃ x, x = l.getD (4 * k) 0 := ⟨_, rfl⟩
      obtain ⟨x1, hx1⟩ : ∃ x, x = l.getD (4 * k + 1) 0 := ⟨_, rfl⟩
      obtain ⟨x2, hx2⟩ : ∃ x, x = l.getD (4 * k + 2) 0 := ⟨_, rfl⟩
      obtain ⟨x3, hx3⟩ : ∃ x, x = l.getD (4 * k + 3) 0 := ⟨_, rfl⟩
      rw [← hx0] at c0
      rw [← hx1] at c1
      rw [← hx2] at c2
      rw [← hx3] at c3
      have b0 := x0.toNat_lt
      have b1 := x1.toNat_lt
      have b2 := x2.toNat_lt
      have b3 := x3.toNat_lt
      have H0 := Lib.hid hx0
      have H1 := Lib.hid hx1
      have H2 := Lib.hid hx2
      have H3 := Lib.hid hx3
      clear hx0 hx1 hx2 hx3
      go_wp2_with fail
      go_region
      rw [word_bytes]
      go_wp2_with fail
      go_roundw
      case rel =>
        refine ⟨k + 1, by omega, by go_num, ?_, ?_⟩
        · have e3 : sch l k = wordB x0 x1 x2 x3 := by rw [sch_low _ _ hlt, H0.out, H1.out, H2.out, H3.out]; rfl
          have e2 := heap_setCell_same wr _ k _ _ (vw (sch l k)) HG.out
          rw [wrow_set _ _ _ (by omega), e3] at e2
          exact e2
        · exact (hbr.setCell (Nat.le_refl _) _).drew
      case measure => simp [intOf]; omega
    · have hk16 : k = 16 := by omega
      subst hk16
      go_wp2_with fail
      go_loopw [5] (fun s5 wr => ∃ j : Nat, j ≤ 48 ∧ s5 = .int .i64 ((j + 16 : Nat) : Int) ∧ wr.heap[w.heap.size + 1]? = some (.cells (wrow (schTo l (j + 16)) 64) 89 (0, 0)) ∧ Below (w.heap.size + 1) A wr) (fun s5 _ => 64 - (intOf s5).toNat)
      case atStart => exact ⟨0, by omega, rfl, HG.out, hbr⟩
      case round =>
        clear hbr
        obtain ⟨j, hj, rfl, hg, hbr⟩ := hrel
        by_cases hlt2 : j < 48
        · have hlt1 := lt_of_block hg
          have hc : ∀ i, i < j + 16 → ∀ w', Below wr.heap.size wr w' → w'.cell? ⟨w.heap.size + 1, i, none⟩ = some (vw (sch l i)) := by
            intro i hi w' hb'
            rw [cell_of_block (by rw [hb'.block _ hlt1]; exact hg), wrow_get _ _ _ (by omega), schTo, if_pos hi]
          have hc0 := hc j (by omega)
          have hc1 := hc (j + 1) (by omega)
          have hc9 := hc (j + 9) (by omega)
          have hc14 := hc (j + 14) (by omega)
          have hs1 : ∀ w', Below wr.heap.size wr w' → Calls Tryd.prog 49 #[vw (sch l (j + 14)), .int .i64 17, .int .i64 19, .int .i64 10] w' fun e w'' => e = .returned (vw (shiftB (sch l (j + 14)) 17 19 10)) ∧ Below wr.heap.size wr w'' :=
            fun w' h => calls_from' (Nat.le_refl _) (shifted_any (sch l (j + 14)) 17 19 10 (by decide) (by decide) (by decide)) w' h
          have hs2 : ∀ w', Below wr.heap.size wr w' → Calls Tryd.prog 49 #[vw (sch l (j + 1)), .int .i64 7, .int .i64 18, .int .i64 3] w' fun e w'' => e = .returned (vw (shiftB (sch l (j + 1)) 7 18 3)) ∧ Below wr.heap.size wr w'' :=
            fun w' h => calls_from' (Nat.le_refl _) (shifted_any (sch l (j + 1)) 7 18 3 (by decide) (by decide) (by decide)) w' h
          have hsch := sch_high l j
          clear hc
          obtain ⟨y0, hy0⟩ : ∃ y, y = sch l j := ⟨_, rfl⟩
          obtain ⟨y1, hy1⟩ : ∃ y, y = sch l (j + 1) := ⟨_, rfl⟩
          obtain ⟨y9, hy9⟩ : ∃ y, y = sch l (j + 9) := ⟨_, rfl⟩
          obtain ⟨y14, hy14⟩ : ∃ y, y = sch l (j + 14) := ⟨_, rfl⟩
          rw [← hy0] at hc0 hsch
          rw [← hy1] at hc1 hs2 hsch
          rw [← hy9] at hc9 hsch
          rw [← hy14] at hc14 hs1 hsch
          clear hy0 hy1 hy9 hy14
          obtain ⟨z14, hz14⟩ : ∃ y, y = shiftB y14 17 19 10 := ⟨_, rfl⟩
          obtain ⟨z1, hz1⟩ : ∃ y, y = shiftB y1 7 18 3 := ⟨_, rfl⟩
          rw [← hz14] at hs1 hsch
          rw [← hz1] at hs2 hsch
          clear hz14 hz1
          unfold vw at hc0 hc1 hc9 hc14 hs1 hs2
          have HC0 := Lib.hid hc0
          have HC1 := Lib.hid hc1
          have HC9 := Lib.hid hc9
          have HC14 := Lib.hid hc14
          have HS1 := Lib.hid hs1
          have HS2 := Lib.hid hs2
          have HSC := Lib.hid hsch
          have HG2 := Lib.hid hg
          clear hc0 hc1 hc9 hc14 hs1 hs2 hsch hg HG
          go_upto_region 10 with (fail)
          refine wp_region_quiet_tail (C := fun w' => Below wr.heap.size wr w') 23 (by kernel_rfl) (by kernel_rfl) (by kernel_rfl) (by kernel_rfl) ((Below.refl _ wr).drew) ?_
          simp only [List.take_succ_cons, List.take_zero, List.drop_succ_cons, List.drop_zero]
          repeat (first
            | go_big_quiet_skip
            | (go_big_quiet_want
               first
                 | (refine quiet_load_cell 45 (.tmp 52) rfl ⟨w.heap.size + 1, j + 14, none⟩ rfl (.int .u32 (y14.toNat : Int)) _ HC14.out Tryd.underlying45 rfl ?_
                    simp only [Act.put, List.setIfInBounds_toArray, List.set_cons_zero, List.set_cons_succ]
                    go_big_quiet_on)
                 | (refine quiet_load_cell 45 (.tmp 57) rfl ⟨w.heap.size + 1, j + 9, none⟩ rfl (.int .u32 (y9.toNat : Int)) _ HC9.out Tryd.underlying45 rfl ?_
                    simp only [Act.put, List.setIfInBounds_toArray, List.set_cons_zero, List.set_cons_succ]
                    go_big_quiet_on)
                 | (refine quiet_load_cell 45 (.tmp 62) rfl ⟨w.heap.size + 1, j + 1, none⟩ rfl (.int .u32 (y1.toNat : Int)) _ HC1.out Tryd.underlying45 rfl ?_
                    simp only [Act.put, List.setIfInBounds_toArray, List.set_cons_zero, List.set_cons_succ]
                    go_big_quiet_on)
                 | (refine quiet_load_cell 45 (.tmp 68) rfl ⟨w.heap.size + 1, j, none⟩ rfl (.int .u32 (y0.toNat : Int)) _ HC0.out Tryd.underlying45 rfl ?_
                    simp only [Act.put, List.setIfInBounds_toArray, List.set_cons_zero, List.set_cons_succ]
                    go_big_quiet_on)
                 | (refine quiet_enter' _ _ _ ?_ HS1.out ?_
                    · intro w; go_simp
                    simp only [Act.put, List.setIfInBounds_toArray, List.set_cons_zero, List.set_cons_succ]
                    go_big_quiet_on)
                 | (refine quiet_enter' _ _ _ ?_ HS2.out ?_
                    · intro w; go_simp
                    simp only [Act.put, List.setIfInBounds_toArray, List.set_cons_zero, List.set_cons_succ]
                    go_big_quiet_on)
                 | (go_big_quiet_op
                    first | refine ⟨_, fun _ _ => rfl, ?_⟩ | refine ⟨_, fun _ _ _ => rfl, ?_⟩ | refine ⟨_, fun _ _ _ _ => rfl, ?_⟩
                    go_big_quiet_on)
                 | (go_big_quiet_op
                    go_big_quiet_on)))
          refine wpQuiet_nil ?_
          intro w1 hb1
          have hg1 : w1.heap[w.heap.size + 1]? = some (.cells (wrow (schTo l (j + 16)) 64) 89 (0, 0)) := by rw [hb1.block _ hlt1]; exact HG2.out
          have cz : w1.cell? ⟨w.heap.size + 1, j + 16, none⟩ = some (.int .u32 0) := by
            rw [cell_of_block hg1, wrow_get _ _ _ (by omega)]
            simp [schTo, vw]
          have fz : w1.frozen? ⟨w.heap.size + 1, j + 16, none⟩ = false := free_of_block hg1
          have HG3 := Lib.hid hg1
          clear hg1
          go_wp2_with fail
          refine ⟨⟨j + 1, by omega, by go_num, ?_, ?_⟩, ?_⟩
          · have e2 := heap_setCell_same w1 _ (j + 16) _ _ (vw (sch l (j + 16))) HG3.out
            rw [wrow_set _ _ _ (by omega), HSC.out] at e2
            rw [sum_words, show j + 1 + 16 = j + 16 + 1 by omega]
            exact e2
          · exact (hbr.trans (hb1.mono (by omega))).setCell (Nat.le_refl _) _
          · simp [intOf]; omega
        · have hj48 : j = 48 := by omega
          subst hj48
          have e64 : schTo l (48 + 16) = schTo l 64 := rfl
          have h0 : wr.heap[w.heap.size]? = some (.cells (wrow (schTo l 0) 64) 89 (0, 0)) := by rw [hbr.block _ (by omega)]; exact HA0.out
          rw [e64, wrow_all, ← HX.out] at hg
          have HG2 := Lib.hid hg
          have HG0 := Lib.hid h0
          clear hg h0 e64 HG
          go_wp2_with (first | (refine wpList_load_row rfl 89 (.tmp 3) rfl (w.heap.size + 1) rfl 89 X (0, 0) _ HG2.out Tryd.underlying89 rfl HXS.out ?_) | (refine wpList_store_row rfl 89 (.tmp 2) (.tmp 72) rfl w.heap.size X rfl rfl 89 _ HG0.out HXS.out H64.out HX1.out ?_))
          refine bodyPost_ret (v := .agg X) (results_cell_row rfl _ _ w.heap.size 89 X (0, 0) _ rfl (setRow_heap wr w.heap.size _ X _ _ HG0.out) Tryd.underlying89 rfl HXS.out) rfl ?_
          exact ⟨rfl, below_grownBy (Nat.le_refl _) (HBA.out.trans (hbr.mono (by omega))) ⟨rfl, rfl, rfl, by simp, fun k _ hk => setRow_other _ w.heap.size k _ (fun e => hk (by rw [e]))⟩ (Nat.le_refl _)⟩
end Go.Proofs.YtkgclhkpncegnaaDoor
