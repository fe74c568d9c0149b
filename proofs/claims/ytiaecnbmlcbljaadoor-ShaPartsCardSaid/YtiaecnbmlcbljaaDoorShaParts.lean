/-
  The walk of ShaParts.
-/
import Derived.Test.YtiaecnbmlcbljaaDoorPartsKit
namespace Go.Proofs.YtiaecnbmlcbljaaDoor
open Go.RowKit
set_option linter.unusedSimpArgs false
set_option linter.unusedVariables false

set_option maxRecDepth 100000 in
set_option maxHeartbeats 4000000 in
theorem shaParts_any (a0 a1 a2 : Option Addr) (l0 l1 l2 : List UInt8) (c0 c1 c2 : Nat) (w : World) (hb0 : BytesAt w a0 l0) (hb1 : BytesAt w a1 l1) (hb2 : BytesAt w a2 l2)
    (hn0 : a0 = none → c0 = 0) (hn1 : a1 = none → c1 = 0) (hn2 : a2 = none → c2 = 0) (hl0 : l0.length ≤ c0) (hc0 : c0 ≤ 9223372036854775807) (hk : KeysAt w) :
    Calls Tryd.prog 5 #[.slice a0 l0.length c0, .slice a1 l1.length c1, .slice a2 l2.length c2] w fun e w' => e = .returned (.bool true) ∧ Below w.heap.size w w' := by
  have hal := alive_any w hk
  by_cases h0 : 5000 < l0.length
  · have d0 : decide ((5000 : Int) < (l0.length : Int)) = true := by simp; omega
    clear hb0 hb1 hb2 hk
    go_enter Tryd.func5, Tryd.ntmps5
    go_wp2_with (go_at_call 7; refine hal.mono ?_; rintro e w1 ⟨rfl, hw1⟩)
    go_ret
    exact ⟨rfl, hw1⟩
  by_cases h1 : 5000 < l1.length
  · have d0 : decide ((5000 : Int) < (l0.length : Int)) = false := by simp; omega
    have d1 : decide ((5000 : Int) < (l1.length : Int)) = true := by simp; omega
    clear hb0 hb1 hb2 hk
    go_enter Tryd.func5, Tryd.ntmps5
    go_wp2_with (go_at_call 7; refine hal.mono ?_; rintro e w1 ⟨rfl, hw1⟩)
    go_ret
    exact ⟨rfl, hw1⟩
  by_cases h2 : 5000 < l2.length
  · have d0 : decide ((5000 : Int) < (l0.length : Int)) = false := by simp; omega
    have d1 : decide ((5000 : Int) < (l1.length : Int)) = false := by simp; omega
    have d2 : decide ((5000 : Int) < (l2.length : Int)) = true := by simp; omega
    clear hb0 hb1 hb2 hk
    go_enter Tryd.func5, Tryd.ntmps5
    go_wp2_with (go_at_call 7; refine hal.mono ?_; rintro e w1 ⟨rfl, hw1⟩)
    go_ret
    exact ⟨rfl, hw1⟩
  have d0 : decide ((5000 : Int) < (l0.length : Int)) = false := by simp; omega
  have d1 : decide ((5000 : Int) < (l1.length : Int)) = false := by simp; omega
  have d2 : decide ((5000 : Int) < (l2.length : Int)) = false := by simp; omega
  go_enter Tryd.func5, Tryd.ntmps5
  go_upto_region 5 with (go_at_call 7; refine hal.mono ?_; rintro e w1 ⟨rfl, hw1⟩)
  obtain ⟨V, hV⟩ : ∃ V, V = (bvs (sumL l0)).toArray := ⟨_, rfl⟩
  have hVz : V.size = 32 := by rw [hV, sumL, ← brow_all, brow_size]
  have hV1 : V.all (·.oneCell') = true := by rw [hV]; simpa using bvs_oneCell (sumL l0)
  have hVs : (Tryd.prog.info? 29).map (·.size) = some V.size := by rw [hVz]; kernel_rfl
  have hV32 : (Array.replicate 32 (Value.int .u8 0)).size = V.size := by rw [hVz]; rfl
  have hVe : ∀ W : World, (Op.equalIn 10000 29 (.agg V) (.agg V)).run Tryd.prog W = .ok true W := fun W => by
    have h32 : (sumL l0).length = 32 := by rw [hV] at hVz; simpa [bvs_length] using hVz
    have := eq_ids W (sumL l0) (sumL l0) h32 h32
    rw [hV]; simpa using this
  have hsum : ∀ (W : World) (x : Option Addr) (c : Nat), BytesAt W x l0 → (x = none → c = 0) → l0.length ≤ c → c ≤ 9223372036854775807 → KeysAt W → Calls Tryd.prog 9 #[.slice x l0.length c] W fun e W' => e = .returned (.agg V) ∧ Below W.heap.size W W' :=
    fun W x c h1 h2 h3 h4 h5 => by rw [hV]; exact sum_any x l0 c W h1 h2 h3 h4 h5
  have HV := Lib.hid hV
  have HV1 := Lib.hid hV1
  have HVS := Lib.hid hVs
  have HV32 := Lib.hid hV32
  have HSUM := Lib.hid hsum
  have HVE := Lib.hid hVe
  have HB0 := Lib.hid (BytesAt.later' hb0 hw1)
  have HB1 := Lib.hid (BytesAt.later' hb1 hw1)
  have HB2 := Lib.hid (BytesAt.later' hb2 hw1)
  have HK := Lib.hid (show KeysAt w1 from fun i hi => cell_later hw1 (hk i hi))
  have HW1 := Lib.hid hw1
  clear hV hVz hV1 hVs hV32 hVe hsum hb0 hb1 hb2 hk hw1 hal
  go_upto_region 6 with (first | (go_at_call 9; refine (HSUM.out _ _ _ HB0.out hn0 hl0 hc0 HK.out).mono ?_; rintro e w2 ⟨rfl, hb2⟩) | (refine wpList_store_row rfl 29 (.tmp 7) (.tmp 27) rfl w2.heap.size V rfl rfl 29 (Array.replicate 32 (.int .u8 0)) (heap_alloc_new w2 _) HVS.out HV32.out HV1.out ?_))
  change Code.wp _ _ _ _ ((w2.alloc (.cells (Array.replicate 32 (.int .u8 0)) 29)).setRow w2.heap.size V)
  obtain ⟨w3, hw3⟩ : ∃ w3, w3 = (w2.alloc (.cells (Array.replicate 32 (.int .u8 0)) 29)).setRow w2.heap.size V := ⟨_, rfl⟩
  rw [← hw3]
  have hg3 : w3.heap[w2.heap.size]? = some (.cells V 29 (0, 0)) := by rw [hw3]; exact setRow_heap _ _ (Array.replicate 32 (.int .u8 0)) V _ _ (heap_alloc_new w2 _)
  have hb3 : Below w1.heap.size w1 w3 := by rw [hw3]; exact below_setRow (hb2.alloc hb2.size _) hb2.size _
  obtain ⟨gi, hgi⟩ : ∃ gi, gi = w2.heap.size := ⟨_, rfl⟩
  rw [← hgi] at hg3 ⊢
  have hB0 := BytesAt.later' HB0.out hb3
  have hB1 := BytesAt.later' HB1.out hb3
  have hB2 := BytesAt.later' HB2.out hb3
  have hown0 := ownsRow_empty w3 5
  have hbe : Below w3.heap.size w3 (w3.alloc (.cells #[] 5)) := (Below.refl _ w3).alloc (Nat.le_refl _) _
  have HG3 := Lib.hid hg3
  have HB3 := Lib.hid hb3
  have HO0 := Lib.hid hown0
  have HBE := Lib.hid hbe
  have HA0 := Lib.hid hB0
  have HA1 := Lib.hid hB1
  have HA2 := Lib.hid hB2
  clear hw3 hb2 hg3 hb3 hgi hown0 hbe hB0 hB1 hB2 HB0 HB1 HB2
  obtain ⟨L, hL⟩ : ∃ L, L = l1 ++ l0 ++ l2 := ⟨_, rfl⟩
  have hLb : bvs L = [] ++ bvs l1 ++ bvs l0 ++ bvs l2 := by rw [hL]; simp [bvs]
  have hLn : L.length = 0 + l1.length + l0.length + l2.length := by rw [hL]; simp; omega
  have HL := Lib.hid hL
  have HLB := Lib.hid hLb
  have HLN := Lib.hid hLn
  clear hL hLb hLn
  go_upto_region 7 with (first
    | (at_builtin; refine wpList_append_bytes rfl (.tmp 28) (.tmp 29) rfl w3.heap.size _ 0 [] rfl HO0.out a1 l1 c1 rfl (BytesAt.later' HA1.out HBE.out) hn1 (by omega) HBE.out.size ?_; intro v1 w4 hv1 hg4; have hb4 := HBE.out.grown hg4 (by simp) (fun k hk => (HO0.out.lt k hk).1); clear hg4)
    | (at_builtin; refine wpList_append_bytes rfl (.tmp 30) (.tmp 31) rfl w3.heap.size v1 _ _ rfl hv1 a0 l0 c0 rfl (BytesAt.later' HA0.out hb4) hn0 (by omega) hb4.size ?_; intro v2 w5 hv2 hg5; have hb5 := hb4.grown hg5 hb4.size (fun k hk => (hv1.lt k hk).1); clear hg5 hb4 hv1)
    | (at_builtin; refine wpList_append_bytes rfl (.tmp 32) (.tmp 33) rfl w3.heap.size v2 _ _ rfl hv2 a2 l2 c2 rfl (BytesAt.later' HA2.out hb5) hn2 (by omega) hb5.size ?_; intro v3 w6 hv3 hg6; have hb6 := hb5.grown hg6 hb5.size (fun k hk => (hv2.lt k hk).1); clear hg6 hb5 hv2))
  have hrow := ownsRow_cast hv3 HLN.out.symm HLB.out.symm
  obtain ⟨aL, cL, rfl, hbL, -, hlL, hmL⟩ := BytesAt.row hrow
  have hnL := own_none hrow
  obtain ⟨pp, cp, hsl, hpp, hnp, hlp, hcp⟩ := slice_mid aL L l1 l0 l2 cL HL.out hnL hlL hmL
  have hcv := conv_bytes hbL cL
  have HPP := Lib.hid (hpp w6 hbL)
  have HNP := Lib.hid hnp
  have HBL := Lib.hid hbL
  have HB6 := Lib.hid hb6
  have HLL := Lib.hid hlL
  clear hv3 hrow hbL hnL hpp hnp hb6
  go_upto_region 9 with (fail)
  clear hcv hsl
  have hconv : ∀ W, Below w6.heap.size w6 W → (convert 22 9 (.slice aL L.length cL)).run Tryd.prog W = .ok (.string ⟨L.toArray⟩) W := fun W h => conv_bytes (BytesAt.later' HBL.out h) cL
  have hload : ∀ W, Below w6.heap.size w6 W → W.heap[gi]? = some (.cells V 29 (0, 0)) := fun W h => by
    have h1 := lt_of_block HG3.out
    rw [h.block _ (Nat.lt_of_lt_of_le h1 HB6.out.size), HB6.out.block _ h1]; exact HG3.out
  have hk6 : KeysAt w6 := fun i hi => cell_later HB6.out (cell_later HB3.out (HK.out i hi))
  have hk6' : ∀ W, Below w6.heap.size w6 W → KeysAt W := fun W h i hi => cell_later h (hk6 i hi)
  have hA0 : ∀ W, Below w6.heap.size w6 W → BytesAt W a0 l0 := fun W h => BytesAt.later' (BytesAt.later' HA0.out HB6.out) h
  have hof : ∀ W, Below w6.heap.size w6 W → Calls Tryd.prog 11 #[.slice pp l0.length cp] W fun e w' => ∃ b g, e = .returned (.pointer (some ⟨b, 0, none⟩)) ∧ W.heap.size ≤ g ∧ g < b ∧ w'.heap[g]? = some (.cells (bvs l0).toArray 5 (0, 0)) ∧
      NamedAt w' b (.slice (some ⟨g, 0, none⟩) l0.length l0.length) 0 0 0 (zeros 32) 0 ∧ Below W.heap.size W w' := fun W h => of_any pp l0 cp W (BytesAt.later' HPP.out h) (by omega)
  have hid' : ∀ (W : World) (b g : Nat), Below w6.heap.size w6 W → g < b → W.heap[g]? = some (.cells (bvs l0).toArray 5 (0, 0)) → NamedAt W b (.slice (some ⟨g, 0, none⟩) l0.length l0.length) 0 0 0 (zeros 32) 0 →
      Calls Tryd.prog 13 #[.pointer (some ⟨b, 0, none⟩)] W fun e w' => e = .returned (.agg V) ∧ NamedAt w' b (.slice (some ⟨g, 0, none⟩) l0.length l0.length) 1 0 0 (bvs (sumL l0)) 1 ∧ W.grownBy w' (some b) := fun W b g h hgb hg hN => by
    rw [HV.out]
    exact id_first b (some ⟨g, 0, none⟩) l0 l0.length 0 (zeros 32) W hN (BytesAt.of_block hg) (fun x hx => by injection hx with hx; rw [← hx]; simp; omega) (fun h0 => by simp at h0) (Nat.le_refl _) (by omega) (hk6' W h) (by omega)
  have hs : Below w6.heap.size w6 w6.drew := (Below.refl _ _).drew
  have HCV := Lib.hid hconv
  have HLD := Lib.hid hload
  have HK6 := Lib.hid hk6'
  have HA06 := Lib.hid hA0
  have HOF := Lib.hid hof
  have HIF := Lib.hid hid'
  clear hconv hload hk6 hk6' hA0 hof hid'
  have hve := HVE.out
  refine wp_region_sched (fun W => Below w6.heap.size w6 W) [([0, 2], 1), ([3, 4, 5, 7], 6), ([8, 9, 10, 11, 12, 13, 14, 15, 16, 17, 20], 18), ([], 19)] [21, 22, 23] (by kernel_rfl) (by kernel_rfl) (fun _ _ d _ _ h => by cases d <;> exact h) (by kernel_rfl) (of_decide_eq_true (by kernel_rfl)) hs ?_
  refine wpSched_cons ?_
  dsimp only [opsAt, List.filterMap, List.getElem?_cons_zero, List.getElem?_cons_succ]
  repeat (first
    | go_big_quiet_skip
    | (go_big_quiet_want
       first
         | (refine quiet_load_row' 29 (.tmp 7) rfl gi rfl 29 V (0, 0) _ HLD.out Tryd.underlying29 rfl HVS.out ?_
            simp only [Act.put, List.setIfInBounds_toArray, List.set_cons_zero, List.set_cons_succ]
            go_big_quiet_on)
         | (go_big_quiet_op
            refine ⟨_, fun _ _ => rfl, ?_⟩
            go_big_quiet_on)
         | (go_big_quiet_op
            go_big_quiet_on)))
  refine wpQuiet_nil ?_
  intro KK hKK
  go_simp
  refine (HSUM.out _ _ _ (BytesAt.later' HPP.out hs) HNP.out hlp (by omega) (HK6.out _ hs)).mono ?_
  rintro e w7 ⟨rfl, hb7⟩
  replace hs := hs.trans (hb7.mono hs.size)
  clear hb7
  refine hKK _ _ hs ?_
  clear hKK KK
  try simp only [Act.put, List.setIfInBounds_toArray, List.set_cons_zero, List.set_cons_succ]
  refine wpSched_cons ?_
  dsimp only [opsAt, List.filterMap, List.getElem?_cons_zero, List.getElem?_cons_succ]
  repeat (first
    | go_big_quiet_skip
    | (go_big_quiet_want
       first
         | (refine quiet_load_row' 29 (.tmp 7) rfl gi rfl 29 V (0, 0) _ HLD.out Tryd.underlying29 rfl HVS.out ?_
            simp only [Act.put, List.setIfInBounds_toArray, List.set_cons_zero, List.set_cons_succ]
            go_big_quiet_on)
         | (go_big_quiet_op
            refine ⟨_, fun _ _ => rfl, ?_⟩
            go_big_quiet_on)
         | (go_big_quiet_op
            go_big_quiet_on)))
  refine wpQuiet_nil ?_
  intro KK hKK
  go_simp
  refine (HSUM.out _ _ _ (HA06.out _ hs) hn0 hl0 hc0 (HK6.out _ hs)).mono ?_
  rintro e w8 ⟨rfl, hb8⟩
  replace hs := hs.trans (hb8.mono hs.size)
  clear hb8
  refine hKK _ _ hs ?_
  clear hKK KK
  try simp only [Act.put, List.setIfInBounds_toArray, List.set_cons_zero, List.set_cons_succ]
  refine wpSched_cons ?_
  dsimp only [opsAt, List.filterMap, List.getElem?_cons_zero, List.getElem?_cons_succ]
  repeat (first
    | go_big_quiet_skip
    | (go_big_quiet_want
       first
         | (refine quiet_load_row' 29 (.tmp 7) rfl gi rfl 29 V (0, 0) _ HLD.out Tryd.underlying29 rfl HVS.out ?_
            simp only [Act.put, List.setIfInBounds_toArray, List.set_cons_zero, List.set_cons_succ]
            go_big_quiet_on)
         | (refine quiet_conv 22 9 (.tmp 57) rfl (.string ⟨L.toArray⟩) HCV.out ?_
            simp only [Act.put, List.setIfInBounds_toArray, List.set_cons_zero, List.set_cons_succ]
            go_big_quiet_on)
         | (go_big_quiet_op
            refine ⟨_, fun _ _ => rfl, ?_⟩
            go_big_quiet_on)
         | (go_big_quiet_op
            go_big_quiet_on)))
  refine wpQuiet_nil ?_
  intro KK hKK
  go_simp
  refine (HOF.out _ hs).mono ?_
  rintro e w9 ⟨b, g, rfl, hg1, hg2, hg3, hN9, hb9⟩
  have hgb := hs.size
  replace hs := hs.trans (hb9.mono hs.size)
  clear hb9
  refine hKK _ _ hs ?_
  clear hKK KK
  try simp only [Act.put, List.setIfInBounds_toArray, List.set_cons_zero, List.set_cons_succ]
  refine wpSched_cons ?_
  dsimp only [opsAt, List.filterMap, List.getElem?_cons_zero, List.getElem?_cons_succ]
  repeat (first
    | go_big_quiet_skip
    | (go_big_quiet_want
       first
         | (go_big_quiet_op
            refine ⟨_, fun _ _ => rfl, ?_⟩
            go_big_quiet_on)
         | (go_big_quiet_op
            go_big_quiet_on)))
  refine wpQuiet_nil ?_
  intro KK hKK
  go_simp
  refine (HIF.out _ b g hs hg2 hg3 hN9).mono ?_
  rintro e w10 ⟨rfl, -, hg10⟩
  replace hs := below_grownBy (Nat.le_refl _) hs hg10 (by omega)
  clear hg10 hN9 hg3
  refine hKK _ _ hs ?_
  clear hKK KK
  try simp only [Act.put, List.setIfInBounds_toArray, List.set_cons_zero, List.set_cons_succ]
  refine wpSched_nil ?_
  dsimp only [opsAt, List.filterMap, List.getElem?_cons_zero, List.getElem?_cons_succ]
  repeat (first
    | go_big_quiet_skip
    | (go_big_quiet_want
       first
         | (go_big_quiet_op
            refine ⟨_, fun _ _ => rfl, ?_⟩
            go_big_quiet_on)
         | (go_big_quiet_op
            go_big_quiet_on)))
  refine wpQuiet_nil ?_
  go_wp2_with fail
  go_ret
  exact ⟨rfl, (HW1.out.trans (HB3.out.mono HW1.out.size)).trans ((HB6.out.mono (Nat.le_trans HW1.out.size HB3.out.size)).trans (hs.mono (Nat.le_trans HW1.out.size (Nat.le_trans HB3.out.size HB6.out.size))))⟩
theorem isRow_none {k : IntKind} {w : World} {a : Option Addr} {len cap : Nat} {zs : List Int} (h : IsRow k w a len cap zs) : a = none → cap = 0 := by
  intro h0
  rcases h with ⟨_, _, h1, _⟩ | ⟨x, h1, _⟩
  · exact h1
  · rw [h0] at h1; cases h1
theorem shaParts_walk (w : World) (hk : KeysAt w) (a0 : Option Addr) (len0 cap0 : Nat) (z0 : List Int) (w0 : IsRow .u8 w a0 len0 cap0 z0) (a1 : Option Addr) (len1 cap1 : Nat) (z1 : List Int) (w1 : IsRow .u8 w a1 len1 cap1 z1) (a2 : Option Addr) (len2 cap2 : Nat) (z2 : List Int) (w2 : IsRow .u8 w a2 len2 cap2 z2) :
    Calls Tryd.prog 5 #[.slice a0 len0 cap0, .slice a1 len1 cap1, .slice a2 len2 cap2] w fun e w' => e = .returned (.bool true) ∧ Below w.heap.size w w' := by
  have n0 := isRow_none w0
  have n1 := isRow_none w1
  have n2 := isRow_none w2
  obtain ⟨l0, rfl, hl0, hm0, hb0⟩ := w0.bytes
  obtain ⟨l1, rfl, hl1, hm1, hb1⟩ := w1.bytes
  obtain ⟨l2, rfl, hl2, hm2, hb2⟩ := w2.bytes
  exact shaParts_any a0 a1 a2 l0 l1 l2 cap0 cap1 cap2 w hb0 hb1 hb2 n0 n1 n2 hl0 (by omega) hk
end Go.Proofs.YtiaecnbmlcbljaaDoor
