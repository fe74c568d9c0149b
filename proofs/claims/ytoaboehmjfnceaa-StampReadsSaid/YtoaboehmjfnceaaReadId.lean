/-
  The walks of Reader.Id and Read.
-/
import Derived.Test.YtoaboehmjfnceaaReadNum
import Derived.Test.YtoaboehmjfnceaaStep
import Derived.Laws.Tables
namespace Go.Proofs.Ytoaboehmjfnceaa
open Go.RowKit

/-- A new, zero ID in memory. -/
def idObj : Obj := .cells #[Value.int IntKind.u8 0, Value.int IntKind.u8 0, Value.int IntKind.u8 0, Value.int IntKind.u8 0, Value.int IntKind.u8 0, Value.int IntKind.u8 0, Value.int IntKind.u8 0, Value.int IntKind.u8 0, Value.int IntKind.u8 0, Value.int IntKind.u8 0, Value.int IntKind.u8 0, Value.int IntKind.u8 0, Value.int IntKind.u8 0, Value.int IntKind.u8 0, Value.int IntKind.u8 0, Value.int IntKind.u8 0, Value.int IntKind.u8 0, Value.int IntKind.u8 0, Value.int IntKind.u8 0, Value.int IntKind.u8 0, Value.int IntKind.u8 0, Value.int IntKind.u8 0, Value.int IntKind.u8 0, Value.int IntKind.u8 0, Value.int IntKind.u8 0, Value.int IntKind.u8 0, Value.int IntKind.u8 0, Value.int IntKind.u8 0, Value.int IntKind.u8 0, Value.int IntKind.u8 0, Value.int IntKind.u8 0, Value.int IntKind.u8 0] 30
theorem idObj_eq : idObj = .cells (zeros 32).toArray 30 := rfl
theorem idObj_heap {w w1 : World} {R : Nat} (hR : R < w.heap.size) (h : (w.alloc idObj).drew.grownBy w1 (some R)) : w1.heap[w.heap.size]? = some (.cells (zeros 32).toArray 30 (0, 0)) := by
  rw [h.block w.heap.size (by show w.heap.size < (w.alloc idObj).heap.size; simp) (by intro e; injection e with e; omega)]
  exact heap_alloc_new w idObj
theorem splice_all (Z X : List Value) (h : Z.length = X.length) : splice Z 0 X = X := by
  unfold splice
  rw [List.take_zero, List.nil_append, Nat.zero_add, ← h, List.drop_length, List.append_nil]

set_option maxRecDepth 100000 in
set_option maxHeartbeats 400000 in
theorem rid_some (R Q : Nat) (l : List UInt8) (f : Bool) (w : World) (h : Reads w R Q l f) (hn : 32 ≤ l.length) :
    Calls Try.prog 57 #[.pointer (some ⟨R, 0, none⟩)] w (ReadOn R Q (.agg (bvs (l.take 32)).toArray) (l.drop 32) f w) := by
  have hR := h.lt
  have hl32 : (l.take 32).length = 32 := by simp; omega
  obtain ⟨T, hT⟩ : ∃ T, T = l.take 32 := ⟨_, rfl⟩
  have hTl : T.length = 32 := by rw [hT]; exact hl32
  have hXl : (bvs T).length = 32 := by rw [bvs_length, hTl]
  obtain ⟨X, hX⟩ : ∃ X, X = bvs T := ⟨_, rfl⟩
  have hX1 : ∀ u ∈ X, u.oneCell' = true := by rw [hX]; exact bvs_oneCell T
  have hr0 : Reads (w.alloc idObj).drew R Q l f := h.later (((Below.refl _ w).alloc (Nat.le_refl _) _).drew)
  have htk := take_ok R Q l f 32 _ hr0 hn
  unfold Took at htk
  rw [← hT, hTl] at htk
  have hs0 : ∀ (a : Option Addr) (w1 : World), BytesAt w1 a T → ∃ ad, a = some ad ∧ ∀ j v, X[j]? = some v → w1.cell? (ad.add j) = some v := by
    intro a w1 hB
    rw [hX]
    exact hB.src (by omega)
  have hg0 : ∀ w1, (w.alloc idObj).drew.grownBy w1 (some R) → w1.heap[w.heap.size]? = some (.cells (zeros 32).toArray 30 (0, 0)) := fun w1 h1 => idObj_heap hR h1
  have hX32 : X.length = 32 := by rw [hX]; exact hXl
  have HT := Lib.hid hT
  have HX := Lib.hid hX
  have HX1 := Lib.hid hX1
  have HXL := Lib.hid hX32
  have HTK := Lib.hid htk
  have HS := Lib.hid hs0
  have HG := Lib.hid hg0
  clear hT hX hX1 htk hs0 hg0 hl32 hTl hXl hr0 hX32
  go_enter Try.func57, Try.ntmps57
  go_upto_region 1 with (fail)
  obtain ⟨O, hO⟩ : ∃ O, O = idObj := ⟨_, rfl⟩
  unfold idObj at hO
  rw [← hO]
  have HO := Lib.hid (show O = idObj from hO)
  clear hO
  go_region_law (first | (go_simp; go_at_call 76; rw [HO.out]; refine HTK.out.mono ?_; rintro e w1 ⟨a1, c1, rfl, hB1, ha1, hr1, hg1⟩) | (refine step_copy_own rfl (.tmp 3) (.tmp 5) 36 36 rfl 5 Try.underlying36 sizeByte _ _ _ _ _ _ rfl rfl w.heap.size 0 (zeros 32) 30 (HG.out _ (by assumption)) X (by rw [HXL.out]; rfl) (fun _ => ⟨rfl, HS.out _ _ (by assumption)⟩) (by rw [HXL.out, zeros_length]; omega) HX1.out ?_; intro w2 hw2 hgr2))
  have hh2 : w2.heap[w.heap.size]? = some (.cells X.toArray 30 (0, 0)) := by
    have := hw2.out
    rwa [splice_all _ _ (by rw [zeros_length, HXL.out])] at this
  have hsz : (Try.prog.info? 30).map (·.size) = some X.toArray.size := by rw [List.size_toArray, HXL.out]; kernel_rfl
  have hcl : X.toArray.all (·.oneCell') = true := by simpa using HX1.out
  have HH2 := Lib.hid hh2
  have HSZ := Lib.hid hsz
  have HCL := Lib.hid hcl
  clear hh2 hsz hcl hw2
  go_wp2_with (first | (refine wpList_load_row rfl 30 (.tmp 2) rfl w.heap.size rfl 30 X.toArray (0, 0) _ HH2.out Try.underlying30 rfl HSZ.out ?_) | (refine wpList_store_row rfl 30 (.tmp 2) (.tmp 7) rfl w.heap.size X.toArray rfl rfl 30 X.toArray HH2.out HSZ.out rfl HCL.out ?_))
  have hh3 := setRow_heap w2 w.heap.size X.toArray X.toArray _ _ HH2.out
  refine bodyPost_ret (v := .agg X.toArray) (results_cell_row rfl _ _ w.heap.size 30 _ (0, 0) _ rfl hh3 Try.underlying30 rfl HSZ.out) rfl ?_
  have hg3 : w2.grownBy (w2.setRow w.heap.size X.toArray) (some w.heap.size) := ⟨rfl, rfl, rfl, by simp, fun k _ hk => setRow_other w2 w.heap.size k _ (fun e => hk (by rw [e]))⟩
  refine ⟨by rw [HX.out, HT.out], ?_, ?_⟩
  · have hQ := hr1.1
    have hQs : Q < w.heap.size := h.2.1
    exact (hr1.other hgr2 (by omega) (by omega)).other hg3 (by omega) (by omega)
  · have hb0 : Below w.heap.size w (w.alloc idObj).drew := ((Below.refl _ w).alloc (Nat.le_refl _) _).drew
    refine ⟨((hg3.os.trans hgr2.os).trans hg1.os).trans hb0.os, ((hg3.tape.trans hgr2.tape).trans hg1.tape).trans hb0.tape, ((hg3.output.trans hgr2.output).trans hg1.output).trans hb0.output, Nat.le_trans (Nat.le_trans (Nat.le_trans hb0.size hg1.size) hgr2.size) hg3.size, ?_⟩
    intro k hk hkR
    have k1 : k < (w.alloc idObj).drew.heap.size := Nat.lt_of_lt_of_le hk hb0.size
    have k2 : k < w1.heap.size := Nat.lt_of_lt_of_le k1 hg1.size
    have k3 : k < w2.heap.size := Nat.lt_of_lt_of_le k2 hgr2.size
    rw [hg3.block k k3 (by intro e; injection e with e; omega), hgr2.block k k2 (by intro e; injection e with e; omega), hg1.block k k1 hkR, hb0.block k hk]

/-- The ID of noughts. -/
def id0 : List UInt8 := List.replicate 32 0
theorem zeros_id0 : zeros 32 = bvs id0 := rfl
theorem splice_nil (Z : List Value) : splice Z 0 [] = Z := by simp [splice]

set_option maxRecDepth 100000 in
set_option maxHeartbeats 400000 in
theorem rid_none (R Q : Nat) (l : List UInt8) (f : Bool) (w : World) (h : Reads w R Q l f) (hn : l.length < 32) :
    Calls Try.prog 57 #[.pointer (some ⟨R, 0, none⟩)] w (ReadOn R Q (.agg (bvs id0).toArray) [] true w) := by
  have hR := h.lt
  obtain ⟨X, hX⟩ : ∃ X, X = zeros 32 := ⟨_, rfl⟩
  have hX1 : ∀ u ∈ X, u.oneCell' = true := by rw [hX, zeros_id0]; exact bvs_oneCell id0
  have hr0 : Reads (w.alloc idObj).drew R Q l f := h.later (((Below.refl _ w).alloc (Nat.le_refl _) _).drew)
  have htk := take_fail R Q l f 32 _ hr0 hn
  have hg0 : ∀ w1, (w.alloc idObj).drew.grownBy w1 (some R) → w1.heap[w.heap.size]? = some (.cells X.toArray 30 (0, 0)) := by rw [hX]; exact fun w1 h1 => idObj_heap hR h1
  have hX32 : X.length = 32 := by rw [hX]; rfl
  have HX := Lib.hid hX
  have HX1 := Lib.hid hX1
  have HXL := Lib.hid hX32
  have HTK := Lib.hid htk
  have HG := Lib.hid hg0
  clear hX hX1 htk hg0 hr0 hX32
  go_enter Try.func57, Try.ntmps57
  go_upto_region 1 with (fail)
  obtain ⟨O, hO⟩ : ∃ O, O = idObj := ⟨_, rfl⟩
  unfold idObj at hO
  rw [← hO]
  have HO := Lib.hid (show O = idObj from hO)
  clear hO
  go_region_law (first | (go_simp; go_at_call 76; rw [HO.out]; refine HTK.out.mono ?_; rintro e w1 ⟨rfl, hr1, hg1⟩) | (refine step_copy_own rfl (.tmp 3) (.tmp 5) 36 36 rfl 5 Try.underlying36 sizeByte _ _ _ _ _ _ rfl rfl w.heap.size 0 X 30 (HG.out _ (by assumption)) [] rfl (fun h0 => absurd h0 (by simp)) (by rw [HXL.out]; simp) (fun v hv => by simp at hv) ?_; intro w2 hw2 hgr2))
  have hh2 : w2.heap[w.heap.size]? = some (.cells X.toArray 30 (0, 0)) := by
    have := hw2.out
    rwa [splice_nil] at this
  have hsz : (Try.prog.info? 30).map (·.size) = some X.toArray.size := by rw [List.size_toArray, HXL.out]; kernel_rfl
  have hcl : X.toArray.all (·.oneCell') = true := by simpa using HX1.out
  have HH2 := Lib.hid hh2
  have HSZ := Lib.hid hsz
  have HCL := Lib.hid hcl
  clear hh2 hsz hcl hw2
  go_wp2_with (first | (refine wpList_load_row rfl 30 (.tmp 2) rfl w.heap.size rfl 30 X.toArray (0, 0) _ HH2.out Try.underlying30 rfl HSZ.out ?_) | (refine wpList_store_row rfl 30 (.tmp 2) (.tmp 7) rfl w.heap.size X.toArray rfl rfl 30 X.toArray HH2.out HSZ.out rfl HCL.out ?_))
  have hh3 := setRow_heap w2 w.heap.size X.toArray X.toArray _ _ HH2.out
  refine bodyPost_ret (v := .agg X.toArray) (results_cell_row rfl _ _ w.heap.size 30 _ (0, 0) _ rfl hh3 Try.underlying30 rfl HSZ.out) rfl ?_
  have hg3 : w2.grownBy (w2.setRow w.heap.size X.toArray) (some w.heap.size) := ⟨rfl, rfl, rfl, by simp, fun k _ hk => setRow_other w2 w.heap.size k _ (fun e => hk (by rw [e]))⟩
  refine ⟨by rw [HX.out, zeros_id0], ?_, ?_⟩
  · have hQ := hr1.1
    have hQs : Q < w.heap.size := h.2.1
    exact (hr1.other hgr2 (by omega) (by omega)).other hg3 (by omega) (by omega)
  · have hb0 : Below w.heap.size w (w.alloc idObj).drew := ((Below.refl _ w).alloc (Nat.le_refl _) _).drew
    refine ⟨((hg3.os.trans hgr2.os).trans hg1.os).trans hb0.os, ((hg3.tape.trans hgr2.tape).trans hg1.tape).trans hb0.tape, ((hg3.output.trans hgr2.output).trans hg1.output).trans hb0.output, Nat.le_trans (Nat.le_trans (Nat.le_trans hb0.size hg1.size) hgr2.size) hg3.size, ?_⟩
    intro k hk hkR
    have k1 : k < (w.alloc idObj).drew.heap.size := Nat.lt_of_lt_of_le hk hb0.size
    have k2 : k < w1.heap.size := Nat.lt_of_lt_of_le k1 hg1.size
    have k3 : k < w2.heap.size := Nat.lt_of_lt_of_le k2 hgr2.size
    rw [hg3.block k k3 (by intro e; injection e with e; omega), hgr2.block k k2 (by intro e; injection e with e; omega), hg1.block k k1 hkR, hb0.block k hk]

/-- A reader of its own was made. -/
def ReadMade (l : List UInt8) (w : World) (e : Ending) (w' : World) : Prop :=
  ∃ R Q, e = .returned (.pointer (some ⟨R, 0, none⟩)) ∧ w.heap.size ≤ R ∧ Reads w' R Q l false ∧ Below w.heap.size w w'

set_option maxRecDepth 100000 in
set_option maxHeartbeats 400000 in
theorem read_any (a : Option Addr) (l : List UInt8) (cap : Nat) (w : World) (hb : BytesAt w a l) (hl : l.length ≤ 281474976710656) :
    Calls Try.prog 26 #[.slice a l.length cap] w (ReadMade l w) := by
  go_enter Try.func26, Try.ntmps26
  go_wp2_with fail
  refine (cloned_exact a l cap 0 w hb (by omega)).mono ?_
  rintro e w1 ⟨rfl, hown, hbel⟩
  go_wp2_with fail
  go_ret
  have hB := BytesAt.rowAt hown
  have hlt := hown.lt w.heap.size rfl
  have hb2 : Below w1.heap.size w1 (w1.alloc (.cells #[.slice (some ⟨w.heap.size, 0, none⟩) l.length l.length, .bool false] 78)) := (Below.refl _ _).alloc (Nat.le_refl _) _
  refine ⟨w1.heap.size, w.heap.size, rfl, hbel.size, ⟨by omega, by simp; omega, some ⟨w.heap.size, 0, none⟩, l.length, heap_alloc_new w1 _, hB.later hb2, ?_, Nat.le_refl _, by omega⟩, hbel.trans (hb2.mono hbel.size)⟩
  intro x hx
  injection hx with hx
  rw [← hx]
end Go.Proofs.Ytoaboehmjfnceaa
