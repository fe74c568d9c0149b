/-
  The walk of enc.Id.
-/
import Derived.Test.YtcdklimpekknnabNum
import Derived.Test.YtcdklimpekknnabStep
namespace Go.Proofs.Ytcdklimpekknnab
open Go.RowKit

/-- An ID as the model has it. -/
def idv (l : List UInt8) : Value := .agg (bvs l).toArray

set_option maxRecDepth 100000 in
set_option maxHeartbeats 400000 in
theorem id_any (a : Option Addr) (l i : List UInt8) (cap : Nat) (w : World) (hb : BytesAt w a l) (hi32 : i.length = 32) (hl : l.length ≤ 140737488355200) :
    Calls Try.prog 18 #[.slice a l.length cap, .agg (bvs i).toArray] w fun e w' => ∃ v, e = .returned v ∧ w'.ownsRow w.heap.size 5 1 v (l ++ i).length (bvs (l ++ i)) ∧ Below w.heap.size w w' := by
  obtain ⟨i0, hi, hz0, hz1, hz2⟩ := info_parts infoByte
  obtain ⟨X, hX⟩ : ∃ X, X = bvs i := ⟨_, rfl⟩
  rw [← hX]
  have HX := Lib.hid hX
  have H32 := Lib.hid hi32
  clear hX hi32
  go_enter Try.func18, Try.ntmps18
  go_wp2_with fail
  have hX32 : X.length = 32 := by rw [HX.out, bvs_length, H32.out]
  have HX32 := Lib.hid hX32
  clear hX32
  have HB : Below w.heap.size w (w.alloc (.cells X.toArray 24)).drew := ((Below.refl _ w).alloc (Nat.le_refl _) _).drew
  have hle : w.heap.size ≤ (w.alloc (.cells X.toArray 24)).drew.heap.size := HB.size
  have hsrc : ∀ w1, Below (w.alloc (.cells X.toArray 24)).drew.heap.size (w.alloc (.cells X.toArray 24)).drew w1 → ∀ j u, X[j]? = some u → w1.cell? ((⟨w.heap.size, 0, none⟩ : Addr).add j) = some u := by
    intro w1 h1 j u hj
    rw [add_plain, Nat.zero_add, h1.cell (p := ⟨w.heap.size, j, none⟩) (by show w.heap.size < _; simp [World.drew])]
    show (w.alloc (.cells X.toArray 24)).cell? _ = _
    rw [World.cell?_alloc_at _ _ _ _ rfl]
    simpa using hj
  have hX1 : ∀ u ∈ X, u.oneCell' = true := by rw [HX.out]; exact bvs_oneCell i
  have HX1 := Lib.hid hX1
  have HS := Lib.hid hsrc
  have HLE := Lib.hid hle
  clear hX1 hsrc hle
  go_region_law (first | (refine step_append_own rfl (.tmp 6) (.tmp 7) 22 rfl w.heap.size 5 i0 (.int .u8 0) 1 1 Try.underlying22 hi hz0 hz1 hz2 rfl (by decide) _ _ _ rfl (ownsRow_mono (by assumption) HLE.out) ⟨w.heap.size, 0, none⟩ 32 32 X rfl (by rw [HX32.out]) (HS.out _ (by assumption)) HX1.out (by unfold maxLen; omega) (by omega) (Nat.le_trans HLE.out (Below.size (by assumption))) ?_; intro v2 w2 hown2 hgrow2 _) | (go_simp; go_at_call 39; refine (cloned_any a l cap 32 _ (hb.later HB) (by omega)).mono ?_; rintro e w1 ⟨v, rfl, hown, hbel⟩))
  go_wp2
  go_ret
  have hs2 : (l ++ i).length = l.length + 32 := by rw [List.length_append, H32.out]
  refine ⟨_, rfl, ownsRow_cast (by assumption) hs2.symm (by rw [bvs_append, HX.out]), ?_⟩
  have h1 := HB.trans (hbel.mono HLE.out)
  exact h1.grown hgrow2 h1.size (fun k hk => Nat.le_trans HLE.out (hown.lt k hk).1)
end Go.Proofs.Ytcdklimpekknnab
