/-
  One more block: 64 rounds.
-/
import Derived.Test.YtkgclhkpncegnaaDoorWords
namespace Go.Proofs.YtkgclhkpncegnaaDoor
open Go.RowKit
set_option linter.unusedSimpArgs false
set_option linter.unusedVariables false

theorem wpList_store_row_then {P : Program} {ops : Array Oper} {rest : List Oper} {o : Oper} {a : Act} {w : World} {Q : Exit → Act → World → Prop} (hgd : o.guard = none) (ty : TypeId) (x y : Operand) (ho : o.op = .store ty x y)
    (g : Nat) (cells : Array Value) (hx : a.eval x = .pointer (some ⟨g, 0, none⟩)) (hy : a.eval y = .agg cells)
    (t : TypeId) (old : Array Value) (hg : w.heap[g]? = some (.cells old t (0, 0))) (hi : (P.info? ty).map (·.size) = some cells.size)
    (hold : old.size = cells.size) (h1 : cells.all (·.oneCell') = true)
    (h : Hid (∀ w', w' = w.setRow g cells → wpList P ops Q rest (a.put o.dst undef) w')) : wpList P ops Q (o :: rest) a w :=
  wpList_store_row hgd ty x y ho g cells hx hy t old hg hi hold h1 (h.out _ rfl)

def keyList : List Nat := [1116352408, 1899447441, 3049323471, 3921009573, 961987163, 1508970993, 2453635748, 2870763221, 3624381080, 310598401, 607225278, 1426881987, 1925078388, 2162078206, 2614888103, 3248222580, 3835390401, 4022224774, 264347078, 604807628, 770255983, 1249150122, 1555081692, 1996064986, 2554220882, 2821834349, 2952996808, 3210313671, 3336571891, 3584528711, 113926993, 338241895, 666307205, 773529912, 1294757372, 1396182291, 1695183700, 1986661051, 2177026350, 2456956037, 2730485921, 2820302411, 3259730800, 3345764771, 3516065817, 3600352804, 4094571909, 275423344, 430227734, 506948616, 659060556, 883997877, 958139571, 1322822218, 1537002063, 1747873779, 1955562222, 2024104815, 2227730452, 2361852424, 2428436474, 2756734187, 3204031479, 3329325298]
def keyAt (i : Nat) : BitVec 32 := BitVec.ofNat 32 (keyList.getD i 0)
/-- The table of the constants of the rounds. -/
def KeysAt (w : World) : Prop := ∀ i, i < 64 → w.cell? ⟨0, i, none⟩ = some (.int .u32 ((keyAt i).toNat : Int))
/-- A state of 8 words. -/
structure St where
  a : BitVec 32
  b : BitVec 32
  c : BitVec 32
  d : BitVec 32
  e : BitVec 32
  f : BitVec 32
  g : BitVec 32
  h : BitVec 32
def rowS (s : St) : Array Value := #[vw s.a, vw s.b, vw s.c, vw s.d, vw s.e, vw s.f, vw s.g, vw s.h]
def t1B (s : St) (k x : BitVec 32) : BitVec 32 := s.h + turnB s.e 6 11 25 + ((s.e &&& s.f) ^^^ (~~~s.e &&& s.g)) + k + x
def t2B (s : St) : BitVec 32 := turnB s.a 2 13 22 + ((s.a &&& s.b) ^^^ (s.a &&& s.c) ^^^ (s.b &&& s.c))
def roundS (s : St) (k x : BitVec 32) : St := ⟨t1B s k x + t2B s, s.a, s.b, s.c, s.d + t1B s k x, s.e, s.f, s.g⟩
def roundsS (l : List UInt8) (s : St) : Nat → St
  | 0 => s
  | i + 1 => roundS (roundsS l s i) (keyAt i) (sch l i)
def addS (s t : St) : St := ⟨s.a + t.a, s.b + t.b, s.c + t.c, s.d + t.d, s.e + t.e, s.f + t.f, s.g + t.g, s.h + t.h⟩
def blockS (l : List UInt8) (s : St) : St := addS (roundsS l s 64) s

theorem not_word (x : BitVec 32) : bits .xor .u32 (if IntKind.u32.signed = true then -1 else IntKind.u32.max) (x.toNat : Int) = ((~~~x).toNat : Int) := by
  show bits .xor .u32 (((BitVec.allOnes 32).toNat : Nat) : Int) (x.toNat : Int) = _
  rw [b32_xor, BitVec.allOnes_xor]
theorem sum_t1 (d h t c k v : BitVec 32) : ((d.toNat : Int) + ((h.toNat : Int) + t.toNat + c.toNat + k.toNat + v.toNat)) % 4294967296 = ((d + (h + t + c + k + v)).toNat : Int) := by
  simp only [BitVec.toNat_add]
  omega
theorem sum_t2 (h t c k v u m : BitVec 32) : ((h.toNat : Int) + t.toNat + c.toNat + k.toNat + v.toNat + ((u.toNat : Int) + m.toNat)) % 4294967296 = ((h + t + c + k + v + (u + m)).toNat : Int) := by
  simp only [BitVec.toNat_add]
  omega
def wordS (s : St) : Nat → BitVec 32
  | 0 => s.a
  | 1 => s.b
  | 2 => s.c
  | 3 => s.d
  | 4 => s.e
  | 5 => s.f
  | 6 => s.g
  | _ => s.h
theorem rowS_wrow (s : St) : rowS s = wrow (wordS s) 8 := rfl
def addTo (r s : St) (i k : Nat) : BitVec 32 := if k < i then wordS r k + wordS s k else wordS r k
theorem addTo_zero (r s : St) : wrow (addTo r s 0) 8 = rowS r := rfl
theorem addTo_all (r s : St) : wrow (addTo r s 8) 8 = rowS (addS r s) := rfl
theorem addTo_set (r s : St) (i : Nat) (h : i < 8) : (wrow (addTo r s i) 8).setIfInBounds i (vw (wordS r i + wordS s i)) = wrow (addTo r s (i + 1)) 8 := by
  apply Array.ext
  · simp [wrow]
  · intro k h1 h2
    have hk : k < 8 := by simpa [wrow_size] using h1
    rw [Array.getElem_setIfInBounds]
    by_cases e : i = k
    · subst e; simp [wrow, addTo]
    · rw [if_neg e]
      have : (k < i) = (k < i + 1) := by apply propext; omega
      simp [wrow, addTo, this]
    · simpa [wrow_size] using hk

def lit8 : Array Value := Array.replicate 8 (.int .u32 0)
def lit64 : Array Value := Array.replicate 64 (.int .u32 0)
theorem rowS_size (s : St) : (rowS s).size = 8 := rfl
theorem rowS_all (s : St) : (rowS s).all (·.oneCell') = true := by simp [rowS, vw, Value.oneCell']

theorem sizeU32 : (Tryd.prog.info? 45).map (·.size) = some 1 := by kernel_rfl
def movedS (s : St) : Array Value := #[vw s.a, vw s.a, vw s.b, vw s.c, vw s.d, vw s.e, vw s.f, vw s.g]
theorem move_src {w : World} {g T : Nat} {s : St} (h : w.heap[g]? = some (.cells (rowS s) T (0, 0))) :
    ∀ j v, [vw s.a, vw s.b, vw s.c, vw s.d, vw s.e, vw s.f, vw s.g][j]? = some v → w.cell? ((⟨g, 0, none⟩ : Addr).add j) = some v := by
  intro j v hj
  have hj7 : j < 7 := (List.getElem?_eq_some_iff.1 hj).1
  rw [add_plain, cell_of_block h, Nat.zero_add, ← hj]
  match j, hj7 with
  | 0, _ => rfl
  | 1, _ => rfl
  | 2, _ => rfl
  | 3, _ => rfl
  | 4, _ => rfl
  | 5, _ => rfl
  | 6, _ => rfl
theorem move_one (s : St) : ∀ v ∈ [vw s.a, vw s.b, vw s.c, vw s.d, vw s.e, vw s.f, vw s.g], v.oneCell' = true := by
  intro v hv
  simp only [List.mem_cons, List.not_mem_nil, or_false] at hv
  rcases hv with rfl | rfl | rfl | rfl | rfl | rfl | rfl <;> rfl

set_option maxHeartbeats 2000000 in
set_option maxRecDepth 100000 in
theorem block_any (b o cap : Nat) (l : List UInt8) (s : St) (w : World) (hl : l.length = 64) (hb : BlockAt w b o l) (hk : KeysAt w) :
    Calls Tryd.prog 35 #[.agg (rowS s), .slice (some ⟨b, o, none⟩) 64 cap] w fun e w' => e = .returned (.agg (rowS (blockS l s))) ∧ Below w.heap.size w w' := by
  obtain ⟨X, hX⟩ : ∃ X, X = rowS s := ⟨_, rfl⟩
  have hXz : X.size = 8 := by rw [hX, rowS_size]
  have hX1 : X.all (·.oneCell') = true := by rw [hX]; exact rowS_all _
  have hXs : (Tryd.prog.info? 47).map (·.size) = some X.size := by rw [hXz]; kernel_rfl
  have h8 : lit8.size = X.size := by rw [hXz]; rfl
  obtain ⟨Y, hY⟩ : ∃ Y, Y = wrow (sch l) 64 := ⟨_, rfl⟩
  have hYz : Y.size = 64 := by rw [hY, wrow_size]
  have hY1 : Y.all (·.oneCell') = true := by rw [hY]; exact wrow_oneCell _ _
  have hYs : (Tryd.prog.info? 89).map (·.size) = some Y.size := by rw [hYz]; kernel_rfl
  have h64 : lit64.size = Y.size := by rw [hYz]; rfl
  rw [← hX]
  obtain ⟨w1, hw1⟩ : ∃ w1, w1 = (w.alloc (.cells X 47)).alloc (.cells lit8 47) := ⟨_, rfl⟩
  have hs1 : w1.heap.size = w.heap.size + 2 := by rw [hw1]; simp
  have hb1 : Below w.heap.size w w1 := by rw [hw1]; exact ((Below.refl _ w).alloc (Nat.le_refl _) _).alloc (by simp) _
  have hx1 : w1.heap[w.heap.size]? = some (.cells X 47 (0, 0)) := by
    rw [hw1, heap_alloc_old _ _ (by simp)]; exact heap_alloc_new w _
  have hr1 : w1.heap[w.heap.size + 1]? = some (.cells lit8 47 (0, 0)) := by
    rw [hw1, show w.heap.size + 1 = (w.alloc (.cells X 47)).heap.size by simp]; exact heap_alloc_new _ _
  have hcall := words_any b o cap l w1 hl (fun i hi => cell_later hb1 (hb i hi))
  rw [← hY] at hcall
  have HCALL := Lib.hid hcall
  have HX := Lib.hid hX
  have HX1 := Lib.hid hX1
  have HXS := Lib.hid hXs
  have H8 := Lib.hid h8
  have HY := Lib.hid hY
  have HY1 := Lib.hid hY1
  have HYS := Lib.hid hYs
  have H64 := Lib.hid h64
  have HW1 := Lib.hid hw1
  have HS1 := Lib.hid hs1
  have HBB := Lib.hid hb1
  have HXX := Lib.hid hx1
  have HRR := Lib.hid hr1
  have HK := Lib.hid hk
  clear hcall hX hX1 hXs h8 hY hY1 hYs h64 hs1 hb1 hx1 hr1 hk hb hXz hYz hw1
  go_enter Tryd.func35, Tryd.ntmps35
  go_upto_region 1 with (fail)
  change Code.wp _ _ _ _ ((w.alloc (.cells X 47)).alloc (.cells lit8 47))
  rw [← HW1.out]
  go_upto_region 2 with (first | (go_at_call 43; refine HCALL.out.mono ?_; rintro e w2 ⟨rfl, hb2⟩; have HG2 := Lib.hid (show (w2.alloc (.cells lit64 89)).heap[w2.heap.size]? = some (.cells lit64 89 (0, 0)) from heap_alloc_new w2 _)) | (refine wpList_store_row_then rfl 89 (.tmp 5) (.tmp 19) rfl w2.heap.size Y rfl rfl 89 lit64 HG2.out HYS.out H64.out HY1.out ?_))
  refine Lib.hid ?_
  change wpList _ _ _ _ _ ((w2.alloc (.cells lit64 89)).setRow w2.heap.size Y)
  obtain ⟨w3, hw3⟩ : ∃ w3, w3 = (w2.alloc (.cells lit64 89)).setRow w2.heap.size Y := ⟨_, rfl⟩
  rw [← hw3]
  have hsz2 := hb2.size
  have hS1 := HS1.out
  have hy3 : w3.heap[w2.heap.size]? = some (.cells Y 89 (0, 0)) := by rw [hw3]; exact setRow_heap _ w2.heap.size _ Y _ _ HG2.out
  have hb23 : Below w1.heap.size w1 w3 := by
    rw [hw3]
    exact below_grownBy (Nat.le_refl _) (hb2.alloc hb2.size _) ⟨rfl, rfl, rfl, by simp, fun k _ hk => setRow_other _ w2.heap.size k _ (fun e => hk (by rw [e]))⟩ hb2.size
  have hx3 : w3.heap[w.heap.size]? = some (.cells X 47 (0, 0)) := by rw [hb23.block _ (by omega)]; exact HXX.out
  have hr3 : w3.heap[w.heap.size + 1]? = some (.cells lit8 47 (0, 0)) := by rw [hb23.block _ (by omega)]; exact HRR.out
  have hs3 : w3.heap.size = w2.heap.size + 1 := by rw [hw3]; simp
  have hb3 : Below w.heap.size w w3 := HBB.out.trans (hb23.mono (by omega))
  obtain ⟨w4, hw4⟩ : ∃ w4, w4 = (w3.alloc (.cells lit8 47)).setRow w3.heap.size X := ⟨_, rfl⟩
  have hg3 : (w3.alloc (.cells lit8 47)).heap[w3.heap.size]? = some (.cells lit8 47 (0, 0)) := heap_alloc_new _ _
  have hs4 : w4.heap[w3.heap.size]? = some (.cells (rowS s) 47 (0, 0)) := by rw [hw4, ← HX.out]; exact setRow_heap _ w3.heap.size _ X _ _ hg3
  have hb4 : Below w3.heap.size w3 w4 := by
    rw [hw4]
    exact below_grownBy (Nat.le_refl _) ((Below.refl _ w3).alloc (Nat.le_refl _) _) ⟨rfl, rfl, rfl, by simp, fun k _ hk => setRow_other _ w3.heap.size k _ (fun e => hk (by rw [e]))⟩ (Nat.le_refl _)
  have hw4s : w4.heap.size = w3.heap.size + 1 := by rw [hw4]; simp
  have HW4 := Lib.hid hw4
  have HG3 := Lib.hid hg3
  have HS4 := Lib.hid hs4
  have HB4 := Lib.hid hb4
  have HB3 := Lib.hid hb3
  have HX3 := Lib.hid hx3
  have HR3 := Lib.hid hr3
  have HY3 := Lib.hid hy3
  have HSZ := Lib.hid (show w.heap.size + 2 ≤ w2.heap.size by omega)
  have HSZ3 := Lib.hid hs3
  have HSZ4 := Lib.hid hw4s
  clear hw4 hg3 hs4 hb4 hb3 hx3 hr3 hy3 hs3 hw4s hw3 hb23 hsz2 hS1 HG2 hb2 HCALL
  go_upto_region 3 with (first | (refine wpList_load_row rfl 47 (.tmp 2) rfl w.heap.size rfl 47 X (0, 0) _ HX3.out Tryd.underlying47 rfl HXS.out ?_) | (refine wpList_store_row_then rfl 47 (.tmp 6) (.tmp 20) rfl w3.heap.size X rfl rfl 47 lit8 HG3.out HXS.out H8.out HX1.out ?_))
  refine Lib.hid ?_
  change wpList _ _ _ _ _ ((w3.alloc (.cells lit8 47)).setRow w3.heap.size X)
  rw [← HW4.out]
  obtain ⟨g6, hg6⟩ : ∃ g6, g6 = w3.heap.size := ⟨_, rfl⟩
  rw [← hg6] at HS4 HSZ4 HSZ3 HB4 ⊢
  obtain ⟨g5, hg5⟩ : ∃ g5, g5 = w2.heap.size := ⟨_, rfl⟩
  rw [← hg5] at HSZ HSZ3 HY3 ⊢
  clear hg5 hg6
  go_wp2_with fail
  go_loopw [7, 8, 9, 10, 11, 12, 13, 14, 15, 16, 21] (fun _ _ _ _ _ _ _ _ _ _ s21 wr => ∃ k : Nat, k ≤ 64 ∧ s21 = .int .i64 (k : Int) ∧ wr.heap[g6]? = some (.cells (rowS (roundsS l s k)) 47 (0, 0)) ∧ Below g6 w4 wr) (fun _ _ _ _ _ _ _ _ _ _ s21 _ => 64 - (intOf s21).toNat)
  case atStart => exact ⟨0, by omega, rfl, HS4.out, Below.refl _ _⟩
  case round =>
    obtain ⟨k, hk, rfl, hg, hbr⟩ := hrel
    by_cases hlt : k < 64
    · have hbw : Below w.heap.size w wr := (HB3.out.trans (HB4.out.mono (by have := HSZ.out; have := HSZ3.out; omega))).trans (hbr.mono (by have := HSZ.out; have := HSZ3.out; omega))
      have hkey : wr.cell? ⟨0, k, none⟩ = some (.int .u32 ((keyAt k).toNat : Int)) := cell_later hbw (HK.out k hlt)
      have hwk : wr.cell? ⟨g5, k, none⟩ = some (.int .u32 ((sch l k).toNat : Int)) := by
        have h5 : g5 < g6 := by have := HSZ3.out; omega
        rw [cell_of_block (by rw [hbr.block _ h5, HB4.out.block _ h5]; exact HY3.out), HY.out, wrow_get _ _ _ hlt]
        rfl
      obtain ⟨K, hK⟩ : ∃ x, x = keyAt k := ⟨_, rfl⟩
      obtain ⟨V, hV⟩ : ∃ x, x = sch l k := ⟨_, rfl⟩
      rw [← hK] at hkey
      rw [← hV] at hwk
      obtain ⟨S, hS⟩ : ∃ x, x = roundsS l s k := ⟨_, rfl⟩
      rw [← hS] at hg
      have c0 : ∀ w', Below wr.heap.size wr w' → w'.cell? ⟨g6, 0, none⟩ = some (.int .u32 (S.a.toNat : Int)) := fun w' h => cell_later h (by rw [cell_of_block hg]; rfl)
      have C0 := Lib.hid c0
      have c1 : ∀ w', Below wr.heap.size wr w' → w'.cell? ⟨g6, 1, none⟩ = some (.int .u32 (S.b.toNat : Int)) := fun w' h => cell_later h (by rw [cell_of_block hg]; rfl)
      have C1 := Lib.hid c1
      have c2 : ∀ w', Below wr.heap.size wr w' → w'.cell? ⟨g6, 2, none⟩ = some (.int .u32 (S.c.toNat : Int)) := fun w' h => cell_later h (by rw [cell_of_block hg]; rfl)
      have C2 := Lib.hid c2
      have c4 : ∀ w', Below wr.heap.size wr w' → w'.cell? ⟨g6, 4, none⟩ = some (.int .u32 (S.e.toNat : Int)) := fun w' h => cell_later h (by rw [cell_of_block hg]; rfl)
      have C4 := Lib.hid c4
      have c5 : ∀ w', Below wr.heap.size wr w' → w'.cell? ⟨g6, 5, none⟩ = some (.int .u32 (S.f.toNat : Int)) := fun w' h => cell_later h (by rw [cell_of_block hg]; rfl)
      have C5 := Lib.hid c5
      have c6 : ∀ w', Below wr.heap.size wr w' → w'.cell? ⟨g6, 6, none⟩ = some (.int .u32 (S.g.toNat : Int)) := fun w' h => cell_later h (by rw [cell_of_block hg]; rfl)
      have C6 := Lib.hid c6
      have c7 : ∀ w', Below wr.heap.size wr w' → w'.cell? ⟨g6, 7, none⟩ = some (.int .u32 (S.h.toNat : Int)) := fun w' h => cell_later h (by rw [cell_of_block hg]; rfl)
      have C7 := Lib.hid c7
      have ck : ∀ w', Below wr.heap.size wr w' → w'.cell? ⟨0, k, none⟩ = some (.int .u32 (K.toNat : Int)) := fun w' h => cell_later h hkey
      have CK := Lib.hid ck
      have cv : ∀ w', Below wr.heap.size wr w' → w'.cell? ⟨g5, k, none⟩ = some (.int .u32 (V.toNat : Int)) := fun w' h => cell_later h hwk
      have CV := Lib.hid cv
      clear c0 c1 c2 c4 c5 c6 c7 ck cv hkey hwk
      have ht1 := fun w => calls_from' (Nat.le_refl _) (w0 := wr) (fun w1 => (turned_any S.e 6 11 25 (by decide) (by decide) (by decide) w1).mono fun _ _ h => ⟨h.1, h.2 ▸ Below.refl _ _⟩) w
      have ht2 := fun w => calls_from' (Nat.le_refl _) (w0 := wr) (fun w1 => (turned_any S.a 2 13 22 (by decide) (by decide) (by decide) w1).mono fun _ _ h => ⟨h.1, h.2 ▸ Below.refl _ _⟩) w
      unfold vw at ht1 ht2
      have HS := Lib.hid hS
      have HKV := Lib.hid hK
      have HV := Lib.hid hV
      have HG := Lib.hid hg
      have HT1 := Lib.hid ht1
      have HT2 := Lib.hid ht2
      clear hS hK hV hg ht1 ht2
      go_upto_region 6 with (fail)
      refine wp_region_below' (w0 := wr) (B := wr.heap.size) (by kernel_rfl) (by kernel_rfl) (Below.refl _ _) ?_
      repeat (first
        | go_big_quiet_skip
        | (go_big_quiet_want
           first
             | (refine quiet_load_cell 45 (.tmp 24) rfl ⟨g6, 0, none⟩ rfl (.int .u32 (S.a.toNat : Int)) _ C0.out Tryd.underlying45 rfl ?_
                simp only [Act.put, List.setIfInBounds_toArray, List.set_cons_zero, List.set_cons_succ]
                go_big_quiet_on)
             | (refine quiet_load_cell 45 (.tmp 26) rfl ⟨g6, 1, none⟩ rfl (.int .u32 (S.b.toNat : Int)) _ C1.out Tryd.underlying45 rfl ?_
                simp only [Act.put, List.setIfInBounds_toArray, List.set_cons_zero, List.set_cons_succ]
                go_big_quiet_on)
             | (refine quiet_load_cell 45 (.tmp 28) rfl ⟨g6, 2, none⟩ rfl (.int .u32 (S.c.toNat : Int)) _ C2.out Tryd.underlying45 rfl ?_
                simp only [Act.put, List.setIfInBounds_toArray, List.set_cons_zero, List.set_cons_succ]
                go_big_quiet_on)
             | (go_big_quiet_op
                first | refine ⟨_, fun _ _ => rfl, ?_⟩ | refine ⟨_, fun _ _ _ => rfl, ?_⟩ | refine ⟨_, fun _ _ _ _ => rfl, ?_⟩
                go_big_quiet_on)
             | (go_big_quiet_op
                go_big_quiet_on)))
      refine wpQuiet_nil ?_
      intro w5 hb5
      go_upto_region 7 with (fail)
      refine wp_region_below' (w0 := wr) (B := wr.heap.size) (by kernel_rfl) (by kernel_rfl) (hb5) ?_
      repeat (first
        | go_big_quiet_skip
        | (go_big_quiet_want
           first
             | (refine quiet_load_cell 45 (.tmp 30) rfl ⟨g6, 4, none⟩ rfl (.int .u32 (S.e.toNat : Int)) _ C4.out Tryd.underlying45 rfl ?_
                simp only [Act.put, List.setIfInBounds_toArray, List.set_cons_zero, List.set_cons_succ]
                go_big_quiet_on)
             | (refine quiet_load_cell 45 (.tmp 32) rfl ⟨g6, 5, none⟩ rfl (.int .u32 (S.f.toNat : Int)) _ C5.out Tryd.underlying45 rfl ?_
                simp only [Act.put, List.setIfInBounds_toArray, List.set_cons_zero, List.set_cons_succ]
                go_big_quiet_on)
             | (refine quiet_load_cell 45 (.tmp 34) rfl ⟨g6, 6, none⟩ rfl (.int .u32 (S.g.toNat : Int)) _ C6.out Tryd.underlying45 rfl ?_
                simp only [Act.put, List.setIfInBounds_toArray, List.set_cons_zero, List.set_cons_succ]
                go_big_quiet_on)
             | (refine quiet_load_cell 45 (.tmp 36) rfl ⟨g6, 7, none⟩ rfl (.int .u32 (S.h.toNat : Int)) _ C7.out Tryd.underlying45 rfl ?_
                simp only [Act.put, List.setIfInBounds_toArray, List.set_cons_zero, List.set_cons_succ]
                go_big_quiet_on)
             | (go_big_quiet_op
                first | refine ⟨_, fun _ _ => rfl, ?_⟩ | refine ⟨_, fun _ _ _ => rfl, ?_⟩ | refine ⟨_, fun _ _ _ _ => rfl, ?_⟩
                go_big_quiet_on)
             | (go_big_quiet_op
                go_big_quiet_on)))
      refine wpQuiet_nil ?_
      intro w6 hb6
      go_upto_region 8 with (fail)
      refine wp_region_below' (w0 := wr) (B := wr.heap.size) (by kernel_rfl) (by kernel_rfl) (hb6) ?_
      repeat (first
        | go_big_quiet_skip
        | (go_big_quiet_want
           first
             | (refine quiet_load_cell 45 (.tmp 52) rfl ⟨0, k, none⟩ rfl (.int .u32 (K.toNat : Int)) _ CK.out Tryd.underlying45 rfl ?_
                simp only [Act.put, List.setIfInBounds_toArray, List.set_cons_zero, List.set_cons_succ]
                go_big_quiet_on)
             | (refine quiet_load_cell 45 (.tmp 56) rfl ⟨g5, k, none⟩ rfl (.int .u32 (V.toNat : Int)) _ CV.out Tryd.underlying45 rfl ?_
                simp only [Act.put, List.setIfInBounds_toArray, List.set_cons_zero, List.set_cons_succ]
                go_big_quiet_on)
             | (refine quiet_enter' _ _ _ ?_ HT1.out ?_
                · intro w; go_simp
                simp only [Act.put, List.setIfInBounds_toArray, List.set_cons_zero, List.set_cons_succ]
                go_big_quiet_on)
             | (go_big_quiet_op
                first | refine ⟨_, fun _ _ => rfl, ?_⟩ | refine ⟨_, fun _ _ _ => rfl, ?_⟩ | refine ⟨_, fun _ _ _ _ => rfl, ?_⟩
                go_big_quiet_on)
             | (go_big_quiet_op
                go_big_quiet_on)))
      refine wpQuiet_nil ?_
      intro w7 hb7
      go_upto_region 10 with (go_at_call 44; refine (HT2.out _ hb7).mono ?_; rintro _ w8 ⟨rfl, hb8⟩)
      refine wp_region_quiet_tail (C := fun w' => Below wr.heap.size wr w') 2 (by kernel_rfl) (by kernel_rfl) (by kernel_rfl) (by kernel_rfl) (hb8.drew) ?_
      simp only [List.take_succ_cons, List.take_zero, List.drop_succ_cons, List.drop_zero]
      repeat (first
        | go_big_quiet_skip
        | (go_big_quiet_want
           first
             | (go_big_quiet_op
                first | refine ⟨_, fun _ _ => rfl, ?_⟩ | refine ⟨_, fun _ _ _ => rfl, ?_⟩ | refine ⟨_, fun _ _ _ _ => rfl, ?_⟩
                go_big_quiet_on)
             | (go_big_quiet_op
                go_big_quiet_on)))
      refine wpQuiet_nil ?_
      intro w9 hb9
      have hlt6 := lt_of_block HG.out
      have h9 : w9.heap[g6]? = some (.cells (rowS S) 47 (0, 0)) := by rw [hb9.block _ hlt6]; exact HG.out
      refine wpList_copy_own rfl (.tmp 73) (.tmp 74) 24 24 rfl 45 Tryd.underlying24 sizeU32 g6 1 7 7 ⟨g6, 0, none⟩ 7 8 rfl rfl (rowS S) 47 h9 [vw S.a, vw S.b, vw S.c, vw S.d, vw S.e, vw S.f, vw S.g] rfl (move_src h9) (by simp [rowS_size]) (move_one S) ?_
      obtain ⟨w10, hw10⟩ : ∃ w10, w10 = w9.setRow g6 ((rowS S).toList.take 1 ++ ([vw S.a, vw S.b, vw S.c, vw S.d, vw S.e, vw S.f, vw S.g] ++ (rowS S).toList.drop (1 + [vw S.a, vw S.b, vw S.c, vw S.d, vw S.e, vw S.f, vw S.g].length))).toArray := ⟨_, rfl⟩
      rw [← hw10]
      have h10 : w10.heap[g6]? = some (.cells (movedS S) 47 (0, 0)) := by rw [hw10]; exact setRow_heap w9 g6 _ (movedS S) _ _ h9
      have c4 : w10.cell? ⟨g6, 4, none⟩ = some (.int .u32 (S.d.toNat : Int)) := by rw [cell_of_block h10]; rfl
      have c0 : w10.cell? ⟨g6, 0, none⟩ = some (.int .u32 (S.a.toNat : Int)) := by rw [cell_of_block h10]; rfl
      have f0 : ∀ j, w10.frozen? ⟨g6, j, none⟩ = false := fun j => free_of_block h10
      have hb10 : Below g6 wr w10 := by
        rw [hw10]
        exact below_grownBy (by omega) (hb9.mono (by omega)) ⟨rfl, rfl, rfl, by simp, fun k _ hk => setRow_other _ g6 k _ (fun e => hk (by rw [e]))⟩ (Nat.le_refl _)
      have H10 := Lib.hid h10
      clear h10 h9 hw10
      go_wp2_with fail
      refine ⟨⟨k + 1, by omega, by go_num, ?_, ?_⟩, by simp [intOf]; omega⟩
      · rw [not_word, b32_and, b32_and, b32_xor, b32_and, b32_and, b32_xor, b32_and, b32_xor, sum_t1, sum_t2]
        have e := heap_setCell_same _ _ 0 _ _ (vw (t1B S K V + t2B S)) (heap_setCell_same w10 _ 4 _ _ (vw (S.d + t1B S K V)) H10.out)
        have e3 : roundsS l s (k + 1) = roundS S K V := by rw [roundsS, ← HS.out, ← HKV.out, ← HV.out]
        rw [e3]
        exact e
      · exact ((hbr.trans hb10).setCell (Nat.le_refl _) _).setCell (Nat.le_refl _) _
    · have hk64 : k = 64 := by omega
      subst hk64
      obtain ⟨R, hR⟩ : ∃ x, x = roundsS l s 64 := ⟨_, rfl⟩
      rw [← hR, ← addTo_zero R s] at hg
      have HRd := Lib.hid hR
      have HG := Lib.hid hg
      clear hR hg
      go_wp2_with fail
      go_loopw [17, 86] (fun _ s86 wr => ∃ k : Nat, k ≤ 8 ∧ s86 = .int .i64 (k : Int) ∧ wr.heap[g6]? = some (.cells (wrow (addTo R s k) 8) 47 (0, 0)) ∧ Below g6 w4 wr) (fun _ s86 _ => 8 - (intOf s86).toNat)
      case atStart => exact ⟨0, by omega, rfl, HG.out, hbr⟩
      case round =>
        clear hbr
        obtain ⟨k, hk, rfl, hg, hbr⟩ := hrel
        by_cases hlt2 : k < 8
        · have h0 : w.heap.size < g6 := by have := HSZ.out; have := HSZ3.out; omega
          have cx : wr.cell? ⟨w.heap.size, k, none⟩ = some (.int .u32 ((wordS s k).toNat : Int)) := by
            rw [cell_of_block (by rw [hbr.block _ h0, HB4.out.block _ h0]; exact HX3.out), HX.out, rowS_wrow, wrow_get _ _ _ hlt2]
            rfl
          have cy : wr.cell? ⟨g6, k, none⟩ = some (.int .u32 ((wordS R k).toNat : Int)) := by
            rw [cell_of_block hg, wrow_get _ _ _ hlt2]
            simp [addTo, vw]
          have fy : wr.frozen? ⟨g6, k, none⟩ = false := free_of_block hg
          obtain ⟨x, hx⟩ : ∃ x, x = wordS s k := ⟨_, rfl⟩
          obtain ⟨y, hy⟩ : ∃ y, y = wordS R k := ⟨_, rfl⟩
          rw [← hx] at cx
          rw [← hy] at cy
          have HXW := Lib.hid hx
          have HYW := Lib.hid hy
          have HG3 := Lib.hid hg
          clear hx hy hg h0 HG
          go_wp2_with fail
          go_region
          go_wp2_with fail
          refine ⟨⟨k + 1, by omega, by go_num, ?_, ?_⟩, by simp [intOf]; omega⟩
          · rw [b32_add, ← addTo_set R s k hlt2, ← HXW.out, ← HYW.out]
            exact heap_setCell_same wr _ k _ _ (vw (y + x)) HG3.out
          · exact (hbr.setCell (Nat.le_refl _) _).drew
        · have hk8 : k = 8 := by omega
          subst hk8
          have h1 : w.heap.size + 1 < g6 := by have := HSZ.out; have := HSZ3.out; omega
          have hr : wr.heap[w.heap.size + 1]? = some (.cells lit8 47 (0, 0)) := by rw [hbr.block _ h1, HB4.out.block _ h1]; exact HR3.out
          have hB : Below w.heap.size w wr := (HB3.out.trans (HB4.out.mono (by have := HSZ.out; have := HSZ3.out; omega))).trans (hbr.mono (by omega))
          rw [addTo_all] at hg
          obtain ⟨Z, hZ⟩ : ∃ x, x = rowS (addS R s) := ⟨_, rfl⟩
          have hZ1 : Z.all (·.oneCell') = true := by rw [hZ]; exact rowS_all _
          have hZs : (Tryd.prog.info? 47).map (·.size) = some Z.size := by rw [hZ, rowS_size]; kernel_rfl
          have hZ8 : lit8.size = Z.size := by rw [hZ, rowS_size]; rfl
          rw [← hZ] at hg
          have HGG := Lib.hid hg
          have HRE := Lib.hid hr
          have HZ := Lib.hid hZ
          have HZ1 := Lib.hid hZ1
          have HZS := Lib.hid hZs
          have HZ8 := Lib.hid hZ8
          clear hg hr hZ hZ1 hZs hZ8 h1 HG
          go_wp2_with (first | (refine wpList_load_row rfl 47 (.tmp 6) rfl g6 rfl 47 Z (0, 0) _ HGG.out Tryd.underlying47 rfl HZS.out ?_) | (refine wpList_store_row rfl 47 (.tmp 4) (.tmp 98) rfl (w.heap.size + 1) Z rfl rfl 47 lit8 HRE.out HZS.out HZ8.out HZ1.out ?_))
          refine bodyPost_ret (v := .agg Z) (results_cell_row rfl _ _ (w.heap.size + 1) 47 Z (0, 0) _ rfl (setRow_heap wr (w.heap.size + 1) _ Z _ _ HRE.out) Tryd.underlying47 rfl HZS.out) rfl ?_
          exact ⟨by rw [HZ.out, HRd.out]; rfl, below_grownBy (Nat.le_refl _) hB ⟨rfl, rfl, rfl, by simp, fun k _ hk => setRow_other _ (w.heap.size + 1) k _ (fun e => hk (by rw [e]))⟩ (by omega)⟩
end Go.Proofs.YtkgclhkpncegnaaDoor
