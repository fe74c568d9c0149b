/-
  The walk of hexing.
-/
import Derived.Test.YtkgclhkpncegnaaDoorParse
import Derived.Test.YtkgclhkpncegnaaDoorHex
import Derived.Test.YtkgclhkpncegnaaDoorBlock
namespace Go.Proofs.YtkgclhkpncegnaaDoor
open Go.RowKit

/-- The digits of the document's example. -/
def exS : ByteArray := ⟨#[98, 97, 55, 56, 49, 54, 98, 102, 56, 102, 48, 49, 99, 102, 101, 97, 52, 49, 52, 49, 52, 48, 100, 101, 53, 100, 97, 101, 50, 50, 50, 51, 98, 48, 48, 51, 54, 49, 97, 51, 57, 54, 49, 55, 55, 97, 57, 99, 98, 52, 49, 48, 102, 102, 54, 49, 102, 50, 48, 48, 49, 53, 97, 100]⟩
def exL : List UInt8 := parseL exS.data.toList
theorem ex_ok : parseB exS.data.toList = true := by kernel_rfl
theorem ex_len : exL.length = 32 := by kernel_rfl
theorem ex_head : (bvs exL)[0]? = some (.int .u8 186) := by kernel_rfl
theorem ex_back : (⟨(hexL exL).toArray⟩ : ByteArray) = exS := by kernel_rfl

theorem wpList_load_row_g {P : Program} {ops : Array Oper} {rest : List Oper} {o : Oper} {a : Act} {w : World} {Q : Exit → Act → World → Prop} (hw : Region.wanted o (yielded ops a.tmps) = true) (ty : TypeId) (x : Operand) (ho : o.op = .load ty x)
    (g : Nat) (hx : a.eval x = .pointer (some ⟨g, 0, none⟩)) (t : TypeId) (cs : Array Value) (fr : Nat × Nat) (d : TypeDesc) (hg : w.heap[g]? = some (.cells cs t fr))
    (hu : P.underlying ty = some d) (hd : (match d with | .struct _ | .array _ _ => true | _ => false) = true) (hi : (P.info? ty).map (·.size) = some cs.size)
    (h : wpList P ops Q rest (a.put o.dst (.agg cs)) w) : wpList P ops Q (o :: rest) a w := by
  unfold wpList
  rw [if_pos hw]
  exact Or.inl (wp_load_row ty x ho g hx t cs fr d hg hu hd hi h)
/-- The world behind 'id, ok := ..': a new block, that holds the ID. -/
theorem new_id (w : World) (T : TypeId) (X : Array Value) : ((w.alloc (.cells lit32 T)).setRow w.heap.size X).heap[w.heap.size]? = some (.cells X T (0, 0)) ∧ Below w.heap.size w ((w.alloc (.cells lit32 T)).setRow w.heap.size X) :=
  ⟨setRow_heap _ w.heap.size _ X _ _ (heap_alloc_new w _), below_grownBy (Nat.le_refl _) ((Below.refl _ w).alloc (Nat.le_refl _) _) ⟨rfl, rfl, rfl, by simp, fun k _ hk => setRow_other _ w.heap.size k _ (fun e => hk (by rw [e]))⟩ (Nat.le_refl _)⟩

set_option maxRecDepth 100000 in
set_option maxHeartbeats 1000000 in
theorem hexing_any (w : World) : Calls Tryd.prog 16 #[] w fun e w' => e = .returned (.bool true) ∧ Below w.heap.size w w' := by
  have hp := parse_any exS w
  unfold Parsed at hp
  rw [ex_ok] at hp
  obtain ⟨E, hEx⟩ : ∃ E, E = exL := ⟨_, rfl⟩
  have hEl : E.length = 32 := by rw [hEx]; exact ex_len
  rw [show parseL exS.data.toList = E from hEx.symm] at hp
  have hx := fun w => hex_any E w hEl
  obtain ⟨S, hS⟩ : ∃ S, S = exS := ⟨_, rfl⟩
  rw [show (⟨(hexL E).toArray⟩ : ByteArray) = S by rw [hEx, hS]; exact ex_back] at hx
  rw [← hS] at hp
  obtain ⟨X, hX⟩ : ∃ X, X = (bvs E).toArray := ⟨_, rfl⟩
  have hX0 : X[0]? = some (.int .u8 186) := by rw [hX, hEx]; simpa using ex_head
  have hXz : X.size = 32 := by rw [hX, List.size_toArray, bvs_length, hEl]
  have hXs : (Tryd.prog.info? 29).map (·.size) = some X.size := by rw [hXz]; exact sizeID
  have hX1 : X.all (·.oneCell') = true := by rw [hX]; simpa using bvs_oneCell E
  have hXl : lit32.size = X.size := by rw [hXz, lit32_size]
  rw [← hX] at hp hx
  have HP := Lib.hid hp
  have HX := Lib.hid hx
  have HX0 := Lib.hid hX0
  have HXS := Lib.hid hXs
  have HX1 := Lib.hid hX1
  have HXL := Lib.hid hXl
  clear hp hEl hEx hx hX hX0 hXz hXs hX1 hXl
  go_enter Tryd.func16, Tryd.ntmps16
  go_upto_region 2 with (fail)
  unfold exS at hS
  rw [← hS]
  clear hS
  go_wp2_with fail
  refine HP.out.mono ?_
  rintro e w1 ⟨rfl, hb1⟩
  have hh : (w1.alloc zid).heap[w1.heap.size]? = some (.cells lit32 29 (0, 0)) := heap_alloc_new w1 _
  have HH := Lib.hid hh
  clear hh
  go_wp2_with (refine wpList_store_row_then rfl 29 (.tmp 2) (.tmp 7) rfl w1.heap.size X rfl rfl 29 lit32 HH.out HXS.out HXL.out HX1.out ?_)
  refine Lib.hid ?_
  change wpList _ _ _ _ _ ((w1.alloc (.cells lit32 29)).setRow w1.heap.size X)
  obtain ⟨hn1, hn2⟩ := new_id w1 29 X
  obtain ⟨w2, hw2⟩ : ∃ w2, w2 = (w1.alloc (.cells lit32 29)).setRow w1.heap.size X := ⟨_, rfl⟩
  rw [← hw2] at hn1 hn2 ⊢
  have hc0 : w2.cell? ⟨w1.heap.size, 0, none⟩ = some (.int .u8 186) := by rw [cell_of_block hn1]; exact HX0.out
  have HN1 := Lib.hid hn1
  have hb2 := hb1.trans (hn2.mono hb1.size)
  clear hw2 hn1 hn2 hb1
  go_wp2_with (refine wpList_load_row_g (by first | rfl | simp [Region.wanted, yielded]) 29 (.tmp 2) rfl w1.heap.size rfl 29 X (0, 0) _ HN1.out Tryd.underlying29 rfl HXS.out ?_)
  refine (HX.out w2).mono ?_
  rintro e w3 ⟨rfl, hb3⟩
  go_wp2_with fail
  go_ret
  exact ⟨rfl, hb2.trans (hb3.mono hb2.size)⟩
end Go.Proofs.YtkgclhkpncegnaaDoor
