/-
  The walk of EncBack.
-/
import Derived.Test.YtcgfkgkajifpbabEncOrder
import Derived.Test.YtcgfkgkajifpbabEncFails
import Derived.Test.YtcgfkgkajifpbabBackMath
import Derived.Test.YtcgfkgkajifpbabOpen
import Derived.Deep.DeepMust
namespace Go.Proofs.Ytcgfkgkajifpbab
open Go.RowKit

theorem wpList_load_row_g {P : Program} {ops : Array Oper} {rest : List Oper} {o : Oper} {a : Act} {w : World} {Q : Exit → Act → World → Prop} (hw : Region.wanted o (yielded ops a.tmps) = true) (ty : TypeId) (x : Operand) (ho : o.op = .load ty x)
    (g : Nat) (hx : a.eval x = .pointer (some ⟨g, 0, none⟩)) (t : TypeId) (cs : Array Value) (fr : Nat × Nat) (d : TypeDesc) (hg : w.heap[g]? = some (.cells cs t fr))
    (hu : P.underlying ty = some d) (hd : (match d with | .struct _ | .array _ _ => true | _ => false) = true) (hi : (P.info? ty).map (·.size) = some cs.size)
    (h : wpList P ops Q rest (a.put o.dst (.agg cs)) w) : wpList P ops Q (o :: rest) a w := by
  unfold wpList
  rw [if_pos hw]
  exact Or.inl (wp_load_row ty x ho g hx t cs fr d hg hu hd hi h)

/-- As 'wpList_store_row', but the walk stands still behind it. -/
theorem wpList_store_row_then {P : Program} {ops : Array Oper} {rest : List Oper} {o : Oper} {a : Act} {w : World} {Q : Exit → Act → World → Prop} (hgd : o.guard = none) (ty : TypeId) (x y : Operand) (ho : o.op = .store ty x y)
    (g : Nat) (cells : Array Value) (hx : a.eval x = .pointer (some ⟨g, 0, none⟩)) (hy : a.eval y = .agg cells)
    (t : TypeId) (old : Array Value) (hg : w.heap[g]? = some (.cells old t (0, 0))) (hi : (P.info? ty).map (·.size) = some cells.size)
    (hold : old.size = cells.size) (h1 : cells.all (·.oneCell') = true)
    (h : Hid (∀ w', w' = w.setRow g cells → wpList P ops Q rest (a.put o.dst undef) w')) : wpList P ops Q (o :: rest) a w :=
  wpList_store_row hgd ty x y ho g cells hx hy t old hg hi hold h1 (h.out _ rfl)

set_option maxRecDepth 100000 in
set_option maxHeartbeats 2000000 in
theorem encBack_any (na : Option Addr) (nums : List Int) (ncap : Nat) (ta : Option Addr) (ss : List ByteArray) (tcap : Nat) (idl : List UInt8) (w : World) (hn : IntsAt .i64 w na nums) (hnl : nums.length ≤ 9223372036854775807) (hs : StrsAt w ta ss) (hsl : ss.length ≤ 9223372036854775807) (hid : idl.length = 32) :
    Calls Try.prog 5 #[.slice na nums.length ncap, .slice ta ss.length tcap, .agg (bvs idl).toArray] w fun e w' => e = .returned (.bool true) ∧ Below w.heap.size w w' := by
  obtain ⟨X, hX⟩ : ∃ X, X = bvs idl := ⟨_, rfl⟩
  rw [← hX]
  have HX := Lib.hid hX
  clear hX
  obtain ⟨i0, hi, hz0, hz1, hz2⟩ := info_parts infoByte
  have hw0 : Below w.heap.size w (w.alloc (.cells X.toArray 24)) := (Below.refl _ w).alloc (Nat.le_refl _) _
  have hs0 : w.heap.size < (w.alloc (.cells X.toArray 24)).heap.size := by simp
  have hx0 : (w.alloc (.cells X.toArray 24)).heap[w.heap.size]? = some (.cells X.toArray 24 (0, 0)) := heap_alloc_new w _
  by_cases hn40 : 40 < nums.length
  · go_enter Try.func5, Try.ntmps5
    go_wp2_with fail
    refine (writing_any _).mono ?_
    rintro e w1 ⟨rfl, hw1⟩
    go_wp2_with fail
    refine (reading_any _).mono ?_
    rintro e w2 ⟨rfl, hw2⟩
    go_wp2_with fail
    go_ret
    exact ⟨rfl, (hw0.trans (hw1.mono (by omega))).trans (hw2.mono (by have := hw1.size; omega))⟩
  · by_cases hs40 : 40 < ss.length
    · go_enter Try.func5, Try.ntmps5
      go_wp2_with fail
      refine (writing_any _).mono ?_
      rintro e w1 ⟨rfl, hw1⟩
      go_wp2_with fail
      refine (reading_any _).mono ?_
      rintro e w2 ⟨rfl, hw2⟩
      go_wp2_with fail
      go_ret
      exact ⟨rfl, (hw0.trans (hw1.mono (by omega))).trans (hw2.mono (by have := hw1.size; omega))⟩
    · go_enter Try.func5, Try.ntmps5
      go_wp2_with fail
      refine (writing_any _).mono ?_
      rintro e w1 ⟨rfl, hw1⟩
      go_wp2_with fail
      refine (reading_any _).mono ?_
      rintro e w2 ⟨rfl, hw2⟩
      have hw2' := (hw0.trans (hw1.mono (by omega))).trans (hw2.mono (by have := hw1.size; omega))
      have hx2 : w2.heap[w.heap.size]? = some (.cells X.toArray 24 (0, 0)) := by
        rw [hw2.block _ (Nat.lt_of_lt_of_le hs0 hw1.size), hw1.block _ hs0]; exact hx0
      have hs2 : w.heap.size < w2.heap.size := lt_of_block hx2
      have HX2 := Lib.hid hx2
      have hn2 := hn.later hw2'
      have hs2' := hs.later hw2'
      clear hw0 hw1 hw2 hx0 hx2 hs0 hn hs
      go_wp2_with fail
      go_loopw [7, 9, 38] (fun s7 _ s38 wr => ∃ (k : Nat) (a : Option Addr) (c : Nat), k ≤ nums.length ∧ s38 = .int .i64 (k : Int) ∧ s7 = .slice a (encNums (nums.take k)).length c ∧ BytesAt wr a (encNums (nums.take k)) ∧ Below w2.heap.size w2 wr) (fun _ _ s38 _ => nums.length - (intOf s38).toNat)
      case atStart => exact ⟨0, none, 0, by omega, rfl, rfl, BytesAt.nil _ _, Below.refl _ _⟩
      case round =>
        obtain ⟨k, a, c, hk, rfl, rfl, hB, hbr⟩ := hrel
        by_cases hlt : k < nums.length
        · obtain ⟨b, off, ha, hcell, _⟩ := (hn2.later hbr) k hlt
          obtain ⟨z, hz⟩ : ∃ z, z = nums[k] := ⟨_, rfl⟩
          have hsn := encNums_snoc nums k hlt
          rw [← hz] at hcell hsn
          have HSN := Lib.hid hsn
          have hlen := encNums_len (nums.take k)
          have htk : (nums.take k).length ≤ 40 := by simp; omega
          obtain ⟨L, hL⟩ : ∃ L, L = encNums (nums.take k) := ⟨_, rfl⟩
          rw [← hL] at hB hlen ⊢
          have HL := Lib.hid hL
          rw [ha]
          clear ha hz hsn hL
          go_wp2_with fail
          refine (num_read a L c z wr hB (by omega)).mono ?_
          rintro e w3 ⟨a3, c3, rfl, hB3, hw3, _⟩
          go_wp2_with fail
          go_roundw
          case rel => exact ⟨k + 1, a3, c3, by omega, by go_num, by rw [HSN.out, ← HL.out, List.length_append], by rw [HSN.out, ← HL.out]; exact hB3, hbr.trans (hw3.mono hbr.size)⟩
          case measure => simp [intOf]; omega
        · have hall : nums.take k = nums := List.take_of_length_le (by omega)
          rw [hall] at hB ⊢
          have hlenN := encNums_len nums
          obtain ⟨LN, hLN⟩ : ∃ LN, LN = encNums nums := ⟨_, rfl⟩
          rw [← hLN] at hB hlenN ⊢
          have HLN := Lib.hid hLN
          clear hall hLN
          go_wp2_with fail
          have hsL : ∃ L, L = LN ++ encTexts (ss.take 0) ∧ L = LN := ⟨LN, by simp [encTexts], rfl⟩
          obtain ⟨L0, hL0, hL0'⟩ := hsL
          rw [← hL0'] at hB ⊢
          have HL0 := Lib.hid hL0
          clear hL0 hL0'
          go_loopw [7, 11, 48] (fun s7 _ s48 wr' => ∃ (k : Nat) (a : Option Addr) (c : Nat) (L : List UInt8), k ≤ ss.length ∧ s48 = .int .i64 (k : Int) ∧ s7 = .slice a L.length c ∧ BytesAt wr' a L ∧ Below w2.heap.size w2 wr' ∧ Hid (L = LN ++ encTexts (ss.take k)) ∧ Hid (∀ s ∈ ss.take k, s.size ≤ 500)) (fun _ _ s48 _ => ss.length - (intOf s48).toNat)
          case atStart => exact ⟨0, a, c, L0, by omega, rfl, rfl, hB, hbr, HL0, by intro s hs; simp at hs⟩
          case round =>
            clear hB hbr HL0 hk hlt
            obtain ⟨k, a, c, L, hk, rfl, rfl, hB, hbr, HL, HS⟩ := hrel
            have hlenT := encTexts_len (ss.take k) HS.out
            have htk : (ss.take k).length ≤ 40 := by simp; omega
            have hLl : L.length ≤ 30000 := by rw [HL.out, List.length_append]; omega
            clear hlenT htk
            by_cases hlt : k < ss.length
            · obtain ⟨b, off, ha, hcell, _⟩ := (hs2'.later hbr) k hlt
              obtain ⟨z, hz⟩ : ∃ z, z = ss[k] := ⟨_, rfl⟩
              have hsn := encTexts_snoc ss k hlt
              have htk1 := List.take_succ_eq_append_getElem hlt
              rw [← hz] at hcell hsn htk1
              have HSN := Lib.hid hsn
              have HTK := Lib.hid htk1
              rw [ha]
              clear ha hz hsn htk1
              by_cases h500 : 500 < z.size
              · go_wp2_with fail
                go_ret
                exact ⟨rfl, hw2'.trans (hbr.mono (by omega))⟩
              · go_wp2_with fail
                refine (text_read a L c z wr hB (by omega)).mono ?_
                rintro e w3 ⟨a3, c3, rfl, hB3, hw3, _⟩
                obtain ⟨L3, hL3⟩ : ∃ L3, L3 = L ++ encText z := ⟨_, rfl⟩
                rw [← hL3] at hB3 ⊢
                have HL3 := Lib.hid hL3
                clear hL3
                go_wp2_with fail
                go_roundw
                case rel =>
                  refine ⟨k + 1, a3, c3, L3, by omega, by go_num, rfl, hB3, hbr.trans (hw3.mono hbr.size), ?_, ?_⟩
                  · show L3 = _
                    rw [HL3.out, HL.out, HSN.out, List.append_assoc]
                  · intro s hs
                    rw [HTK.out] at hs
                    rcases List.mem_append.1 hs with hs | hs
                    · exact HS.out s hs
                    · simp at hs; subst hs; omega
                case measure => simp [intOf]; omega
            · have hall : ss.take k = ss := List.take_of_length_le (by omega)
              have hL' := HL.out
              have hS' := HS.out
              rw [hall] at hL' hS'
              have HL' := Lib.hid hL'
              have HS' := Lib.hid hS'
              have hxr : wr.heap[w.heap.size]? = some (.cells X.toArray 24 (0, 0)) := by rw [hbr.block _ hs2]; exact HX2.out
              have HXR := Lib.hid hxr
              have hsz : (Try.prog.info? 24).map (·.size) = some X.toArray.size := by rw [List.size_toArray, HX.out, bvs_length, hid]; kernel_rfl
              have HSZ := Lib.hid hsz
              clear hall hL' hS' hxr hsz HL HS
              go_wp2_with (refine wpList_load_row rfl 24 (.tmp 5) rfl w.heap.size rfl 24 X.toArray (0, 0) _ HXR.out Try.underlying24 rfl HSZ.out ?_)
              rw [HX.out]
              refine (id_read a L idl c wr hB hid (by omega)).mono ?_
              rintro e w4 ⟨a4, c4, rfl, hB4, hw4, _, hcap4, hcapm⟩
              have hw4' := hbr.trans (hw4.mono hbr.size)
              obtain ⟨B, hBe⟩ : ∃ B, B = L ++ idl := ⟨_, rfl⟩
              have hBl : B.length = L.length + 32 := by rw [hBe, List.length_append, hid]
              rw [← hBe] at hB4 ⊢
              have HBE := Lib.hid hBe
              have HBL := Lib.hid hBl
              have hB32 : 32 ≤ B.length := by omega
              rw [← hBe] at hcap4
              have hBm : B.length ≤ 30032 := by omega
              obtain ⟨bb, bo, hba⟩ := hB4.addr (by omega)
              subst hba
              rw [← HX.out]
              clear hw4 hB hbr hBe hBl hLl
              have hx4 : w4.heap[w.heap.size]? = some (.cells X.toArray 24 (0, 0)) := by rw [hw4'.block _ hs2]; exact HX2.out
              have HX4 := Lib.hid hx4
              clear hx4 HXR
              go_wp2_with fail
              obtain ⟨w5, hw5e⟩ : ∃ w5, w5 = w4.alloc (.cells #[Value.int .i64 0, Value.int .i64 1] 3) := ⟨_, rfl⟩
              have hb5 : Below w4.heap.size w4 w5 := by rw [hw5e]; exact (Below.refl _ _).alloc (Nat.le_refl _) _
              have hz5 : w5.heap.size = w4.heap.size + 1 := by rw [hw5e]; simp
              have hcut0 : w5.cell? ⟨w4.heap.size, 0, none⟩ = some (.int .i64 0) := by rw [hw5e, World.cell?_alloc_at _ _ _ _ rfl]; rfl
              have hcut1 : w5.cell? ⟨w4.heap.size, 1, none⟩ = some (.int .i64 1) := by rw [hw5e, World.cell?_alloc_at _ _ _ _ rfl]; rfl
              rw [← hw5e]
              have hB5 := hB4.later hb5
              have hw5' := hw4'.trans (hb5.mono hw4'.size)
              have hx5 : w5.heap[w.heap.size]? = some (.cells X.toArray 24 (0, 0)) := by rw [hb5.block _ (Nat.lt_of_lt_of_le hs2 hw4'.size)]; exact HX4.out
              have HX5 := Lib.hid hx5
              have hn5 := hn2.later hw5'
              have hs5 := hs2'.later hw5'
              have hs25 : w2.heap.size ≤ w5.heap.size := hw5'.size
              have hs45 : w4.heap.size < w5.heap.size := by omega
              have hww5 := hw2'.trans (hw5'.mono (by omega))
              clear hw5e hb5 hz5 hx5 HX4 hw4' hB4 hn2 hs2' hw2' hw5'
              go_loopw [64] (fun s64 wr => ∃ κ : Nat, κ ≤ 2 ∧ s64 = .int .i64 (κ : Int) ∧ Below w5.heap.size w5 wr) (fun s64 _ => 2 - (intOf s64).toNat)
              case atStart => exact ⟨0, by omega, rfl, Below.refl _ _⟩
              case round =>
                clear hlt hk
                obtain ⟨κ, hκ2, rfl, hbr⟩ := hrel
                have hsr := hbr.size
                by_cases hκ : κ < 2
                · have hcell : wr.cell? ⟨w4.heap.size, κ, none⟩ = some (.int .i64 (κ : Int)) := by
                    rw [hbr.cell (p := ⟨w4.heap.size, κ, none⟩) hs45]
                    rcases (show κ = 0 ∨ κ = 1 by omega) with h | h <;> subst h
                    · exact hcut0
                    · exact hcut1
                  have hBr := hB5.later hbr
                  obtain ⟨M, hM⟩ : ∃ M, M = B.take (B.length - κ) := ⟨_, rfl⟩
                  have hMl : M.length = B.length - κ := by rw [hM, List.length_take]; omega
                  have hBM : BytesAt wr (some ⟨bb, bo, none⟩) M := by rw [hM]; exact hBr.take _
                  have HM := Lib.hid hM
                  have HML := Lib.hid hMl
                  obtain ⟨ad, had, hsrc⟩ := (hBM.later ((Below.refl _ wr).alloc (Nat.le_refl _) (.cells #[] 5))).src (by rw [bvs_length]; omega)
                  obtain rfl : ad = ⟨bb, bo, none⟩ := by simpa using had.symm
                  clear had hBr hBM hM hMl
                  go_wp2_with (at_builtin; go_must (refine wpList_append_own _ rfl (.tmp 68) (.tmp 74) 22 rfl wr.heap.size 5 i0 (.int .u8 0) 1 1 Try.underlying22 hi hz0 hz1 hz2 rfl (by decide) _ _ _ rfl (ownsRow_empty wr _) ⟨bb, bo, none⟩ (B.length - κ) _ (bvs M) rfl (by rw [bvs_length, HML.out, Nat.mul_one]) hsrc (bvs_oneCell M) (by unfold maxLen; omega) (by omega) (by simp) ?_))
                  intro v6 w6 hown6 hgrow6 _
                  obtain ⟨g, c6, hv6, hg6⟩ : ∃ g c6, v6 = .slice (some ⟨g, 0, none⟩) (B.length - κ) c6 ∧ wr.heap.size ≤ g := by
                    rcases hown6.2 with ⟨_, h⟩ | ⟨g, c6, _, h1, h2, _⟩
                    · omega
                    · exact ⟨g, c6, h1, h2⟩
                  have hw6 : Below wr.heap.size wr w6 := ((Below.refl _ wr).alloc (Nat.le_refl _) _).grown hgrow6 (by simp) (fun k hk => by simp [Value.ownBlock] at hk; omega)
                  rw [hv6] at hown6 ⊢
                  clear hgrow6 hsrc hv6
                  have hsz6 := hw6.size
                  go_wp2_with (at_builtin; go_must (refine wpList_append_zeros _ rfl (.tmp 75) (.tmp 77) rfl wr.heap.size g (B.length - κ) c6 (2 * κ) (bvs M) rfl (by simp [Act.eval]) hown6 (by omega) hsz6 ?_))
                  intro v7 w7 hown7 hgrow7
                  obtain ⟨tail, hta⟩ : ∃ tail, tail = idl.take (32 - κ) ++ List.replicate (2 * κ) 0 := ⟨_, rfl⟩
                  obtain ⟨D, hD⟩ : ∃ D, D = M ++ List.replicate (2 * κ) 0 := ⟨_, rfl⟩
                  have hDe : D = encNums (nums.drop 0) ++ (encTexts (ss.drop 0) ++ tail) := by
                    rw [hD, HM.out, HBE.out, cut_bytes L idl κ hid (by omega), HL'.out, HLN.out, ← hta, List.append_assoc]
                    simp
                  have hDl : D.length = B.length + κ := by rw [hD, List.length_append, HML.out, List.length_replicate]; omega
                  have hown7' : w7.ownsRow wr.heap.size 5 1 v7 (B.length - κ + 2 * κ) (bvs D) := ownsRow_cast hown7 rfl (by rw [hD, bvs_append, zeros_bvs])
                  obtain ⟨a7, c7, hv7, hB7, _, hc7, hc7m⟩ := BytesAt.row hown7'
                  rw [hv7]
                  have hw7 : Below wr.heap.size wr w7 := hw6.grown hgrow7 hsz6 (fun k hk => by injection hk with hk; omega)
                  have hb7 : Below w5.heap.size w5 w7 := hbr.trans (hw7.mono hsr)
                  have HTA := Lib.hid hta
                  have HDE := Lib.hid hDe
                  have HDL := Lib.hid hDl
                  clear hown7 hown7' hv7 hown6 hw6 hgrow7 hD hDe hta hcell hw7 hsz6 hDl
                  go_wp2_with fail
                  refine (read_any a7 D c7 w7 hB7 (by have := HDL.out; omega)).mono ?_
                  rintro e w8 ⟨R, Q, rfl, hRw, hr8, hw8⟩
                  have hR5 : w5.heap.size ≤ R := Nat.le_trans hb7.size hRw
                  have hb8 : Below w5.heap.size w5 w8 := hb7.trans (hw8.mono hb7.size)
                  rw [HDE.out] at hr8
                  clear hB7 hb7 hw8 hRw hbr hsr
                  go_wp2_with fail
                  go_loopw [15, 17, 82] (fun s15 _ s82 wr => ∃ k : Nat, k ≤ nums.length ∧ s82 = .int .i64 (k : Int) ∧ s15 = .bool true ∧ Reads wr R Q (encNums (nums.drop k) ++ (encTexts (ss.drop 0) ++ tail)) false ∧ Below w5.heap.size w5 wr) (fun _ _ s82 _ => nums.length - (intOf s82).toNat)
                  case atStart => exact ⟨0, by omega, rfl, rfl, hr8, hb8⟩
                  case round =>
                    obtain ⟨k, hk, rfl, rfl, hr, hbr⟩ := hrel
                    by_cases hlt : k < nums.length
                    · obtain ⟨b, off, ha, hcell, _⟩ := (hn5.later hbr) k hlt
                      have hrn := rnum_drop nums (encTexts (ss.drop 0) ++ tail) k hlt
                      obtain ⟨z, hz⟩ : ∃ z, z = nums[k] := ⟨_, rfl⟩
                      rw [← hz] at hcell hrn
                      have hNc := clampN_cast z
                      obtain ⟨N, hN⟩ : ∃ N, N = clampN z := ⟨_, rfl⟩
                      rw [← hN] at hrn hNc
                      have HRN := Lib.hid hrn
                      have HNC := Lib.hid hNc
                      rw [ha]
                      clear ha hz hrn hN hNc
                      go_wp2_with fail
                      refine (rnum_some R Q _ false _ N _ wr hr HRN.out).mono ?_
                      rintro e w9 ⟨rfl, hr9, hg9⟩
                      have hb9 := below_grownBy (Nat.le_refl _) hbr hg9 hR5
                      clear hr hbr hg9 hcell
                      go_wp2_with fail
                      go_roundw
                      case rel => exact ⟨k + 1, by omega, by go_num, by rw [if_clamp, ← HNC.out, beq_self_eq_true], hr9, hb9⟩
                      case measure => simp [intOf]; omega
                    · have hr' := hr
                      rw [encNums_nil (by omega), List.nil_append] at hr'
                      clear hr8 hb8 hr
                      go_wp2_with fail
                      go_loopw [15, 19, 98] (fun s15 _ s98 wr => ∃ k : Nat, k ≤ ss.length ∧ s98 = .int .i64 (k : Int) ∧ s15 = .bool true ∧ Reads wr R Q (encTexts (ss.drop k) ++ tail) false ∧ Below w5.heap.size w5 wr) (fun _ _ s98 _ => ss.length - (intOf s98).toNat)
                      case atStart => exact ⟨0, by omega, rfl, rfl, hr', hbr⟩
                      case round =>
                        clear hr' hbr hlt hk
                        obtain ⟨k, hk, rfl, rfl, hr, hbr⟩ := hrel
                        by_cases hlt : k < ss.length
                        · obtain ⟨b, off, ha, hcell, _⟩ := (hs5.later hbr) k hlt
                          have hrn := rtext_drop ss tail k hlt (HS'.out _ (List.getElem_mem _))
                          obtain ⟨z, hz⟩ : ∃ z, z = ss[k] := ⟨_, rfl⟩
                          rw [← hz] at hcell hrn
                          have HRN := Lib.hid hrn
                          rw [ha]
                          clear ha hz hrn
                          go_wp2_with fail
                          refine (rtext_str R Q _ false _ z _ wr hr HRN.out).mono ?_
                          rintro e w9 ⟨rfl, hr9, hg9⟩
                          have hb9 := below_grownBy (Nat.le_refl _) hbr hg9 hR5
                          clear hr hbr hg9 hcell
                          go_wp2_with fail
                          go_roundw
                          case rel => exact ⟨k + 1, by omega, by go_num, by simp, hr9, hb9⟩
                          case measure => simp [intOf]; omega
                        · have hr' := hr
                          rw [encTexts_nil (by omega), List.nil_append] at hr'
                          clear hr
                          have hlen32 : 32 ≤ tail.length := by rw [HTA.out, List.length_append, List.length_take, List.length_replicate]; omega
                          obtain ⟨T, hT⟩ : ∃ T, T = tail.take 32 := ⟨_, rfl⟩
                          have hTl : T.length = 32 := by rw [hT, List.length_take]; omega
                          have hid3 := rid_some R Q tail false wr hr' hlen32
                          rw [← hT] at hid3
                          obtain ⟨Y, hY⟩ : ∃ Y, Y = bvs T := ⟨_, rfl⟩
                          rw [← hY] at hid3
                          have hYl : Y.length = 32 := by rw [hY, bvs_length, hTl]
                          have hYc : Y.toArray.all (·.oneCell') = true := by rw [hY]; simpa using bvs_oneCell T
                          have hYs : (Try.prog.info? 24).map (·.size) = some Y.toArray.size := by rw [List.size_toArray, hYl]; kernel_rfl
                          have HID := Lib.hid hid3
                          have HT := Lib.hid hT
                          have HTL := Lib.hid hTl
                          have HY := Lib.hid hY
                          have HYL := Lib.hid hYl
                          have HYC := Lib.hid hYc
                          have HYS := Lib.hid hYs
                          clear hid3 hT hTl hY hYl hYc hYs
                          go_wp2_with fail
                          refine HID.out.mono ?_
                          rintro e w10 ⟨rfl, hr10, hg10⟩
                          have hb10 := below_grownBy (Nat.le_refl _) hbr hg10 hR5
                          clear hbr hg10 hr'
                          go_wp2_with (refine wpList_store_row_then rfl 24 (.tmp 20) (.tmp 111) rfl w10.heap.size Y.toArray rfl rfl 24 _ (heap_alloc_new w10 _) HYS.out (by simp [HYL.out]) HYC.out ?_)
                          refine Lib.hid ?_
                          obtain ⟨w11, hw11⟩ : ∃ w11, w11 = (w10.alloc idObj).setRow w10.heap.size Y.toArray := ⟨_, rfl⟩
                          have hg11 : (w10.alloc idObj).grownBy w11 (some w10.heap.size) := by rw [hw11]; exact ⟨rfl, rfl, rfl, by simp, fun k _ hk => setRow_other _ w10.heap.size k _ (fun e => hk (by rw [e]))⟩
                          have hy11 : w11.heap[w10.heap.size]? = some (.cells Y.toArray 24 (0, 0)) := by rw [hw11]; exact setRow_heap _ w10.heap.size _ Y.toArray _ _ (heap_alloc_new w10 idObj)
                          have hb10a : Below w10.heap.size w10 (w10.alloc idObj) := (Below.refl _ _).alloc (Nat.le_refl _) _
                          have hsz10 : w5.heap.size ≤ w10.heap.size := hb10.size
                          have hR10 : R < w10.heap.size := hr10.lt
                          have hQ10 : Q < w10.heap.size := hr10.2.1
                          have hb11 : Below w5.heap.size w5 w11 := below_grownBy (Nat.le_refl _) (hb10.trans (hb10a.mono hsz10)) hg11 hsz10
                          have hr11 : Reads w11 R Q (tail.drop 32) false := (hr10.later hb10a).other hg11 (by omega) (by omega)
                          have hx11 : w11.heap[w.heap.size]? = some (.cells X.toArray 24 (0, 0)) := by rw [hb11.block _ (by omega)]; exact HX5.out
                          have heq : (Op.equalIn 10000 24 (.agg Y.toArray) (.agg X.toArray)).run Try.prog w11 = .ok (decide (T = idl)) w11 := by
                            rw [HY.out, HX.out]
                            exact eq_ids w11 T idl HTL.out hid
                          unfold idObj at hw11
                          rw [← hw11]
                          have HY11 := Lib.hid hy11
                          have HX11 := Lib.hid hx11
                          have htl : tail.length = 32 + κ := by rw [HTA.out, List.length_append, List.length_take, List.length_replicate]; omega
                          have HTAL := Lib.hid htl
                          clear hw11 hg11 hy11 hb10a hr10 hb10 hx11 htl
                          rcases (show κ = 0 ∨ κ = 1 by omega) with h01 | h01
                          · have q0 : ((κ : Int) == 0) = true := by rw [h01]; rfl
                            have q1 : ((κ : Int) == 1) = false := by rw [h01]; rfl
                            have hT : T = idl := by rw [HT.out, HTA.out]; exact tail_zero idl κ hid h01
                            rw [decide_eq_true hT] at heq
                            have hE : (tail.drop 32).isEmpty = true := by
                              rw [List.isEmpty_iff]
                              exact List.drop_eq_nil_of_le (by rw [HTAL.out]; omega)
                            have hd := done_any R Q _ false w11 hr11
                            rw [hE] at hd
                            have HDN := Lib.hid hd
                            clear hT hE hd h01
                            go_wp2_with (first | (refine wpList_load_row_g (by first | rfl | simp [Region.wanted, yielded]) 24 (.tmp 20) rfl w10.heap.size rfl 24 Y.toArray (0, 0) _ HY11.out Try.underlying24 rfl HYS.out ?_) | (refine wpList_load_row_g (by first | rfl | simp [Region.wanted, yielded]) 24 (.tmp 5) rfl w.heap.size rfl 24 X.toArray (0, 0) _ HX11.out Try.underlying24 rfl HSZ.out ?_))
                            refine HDN.out.mono ?_
                            rintro e w12 ⟨rfl, rfl⟩
                            go_wp2_with fail
                            go_roundw
                            case rel => exact ⟨κ + 1, by omega, by go_num, hb11⟩
                            case measure => simp [intOf]; omega
                          · have q0 : ((κ : Int) == 0) = false := by rw [h01]; rfl
                            have q1 : ((κ : Int) == 1) = true := by rw [h01]; rfl
                            have hl1 : (tail.drop 32).length = 1 := by rw [List.length_drop, HTAL.out]; omega
                            have hE : (tail.drop 32).isEmpty = false := by
                              cases hc : tail.drop 32 with
                              | nil => rw [hc] at hl1; simp at hl1
                              | cons _ _ => rfl
                            have hd := done_any R Q _ false w11 hr11
                            have hlf := left_any R Q _ false w11 hr11
                            rw [hE] at hd
                            rw [hl1] at hlf
                            have HDN := Lib.hid hd
                            have HLF := Lib.hid hlf
                            clear hl1 hE hd hlf h01 heq
                            go_wp2_with fail
                            refine HDN.out.mono ?_
                            rintro e w12 ⟨rfl, rfl⟩
                            go_wp2_with fail
                            refine HLF.out.mono ?_
                            rintro e w12 ⟨rfl, rfl⟩
                            go_wp2_with fail
                            go_roundw
                            case rel => exact ⟨κ + 1, by omega, by go_num, hb11⟩
                            case measure => simp [intOf]; omega
                · have hBr := hB5.later hbr
                  obtain ⟨M, hM⟩ : ∃ M, M = B.take (B.length - 1) := ⟨_, rfl⟩
                  have hMl : M.length = B.length - 1 := by rw [hM, List.length_take]; omega
                  have hBM : BytesAt wr (some ⟨bb, bo, none⟩) M := by rw [hM]; exact hBr.take _
                  obtain ⟨tail, hta⟩ : ∃ tail, tail = idl.take 31 := ⟨_, rfl⟩
                  have hMe : M = encNums (nums.drop 0) ++ (encTexts (ss.drop 0) ++ tail) := by
                    rw [hM, HBE.out, last_cut L idl hid, HL'.out, HLN.out, ← hta, List.append_assoc]
                    simp
                  have hrd := fun c (hc : M.length ≤ 281474976710656) => read_any (some ⟨bb, bo, none⟩) M c wr hBM hc
                  rw [hMl] at hrd
                  have HRD := Lib.hid hrd
                  have HTA := Lib.hid hta
                  have HME := Lib.hid hMe
                  clear hBr hM hMe hta hMl hrd
                  go_wp2_with fail
                  refine (HRD.out _ (by omega)).mono ?_
                  rintro e w8 ⟨R, Q, rfl, hRw, hr8, hw8⟩
                  have hR5 : w5.heap.size ≤ R := Nat.le_trans hsr hRw
                  have hb8 : Below w5.heap.size w5 w8 := hbr.trans (hw8.mono hsr)
                  rw [HME.out] at hr8
                  clear hw8 hRw hbr hsr hBM
                  go_wp2_with fail
                  go_loopw [150] (fun s150 wr => ∃ k : Nat, k ≤ nums.length ∧ s150 = .int .i64 (k : Int) ∧ Reads wr R Q (encNums (nums.drop k) ++ (encTexts (ss.drop 0) ++ tail)) false ∧ Below w5.heap.size w5 wr) (fun s150 _ => nums.length - (intOf s150).toNat)
                  case atStart => exact ⟨0, by omega, rfl, hr8, hb8⟩
                  case round =>
                    obtain ⟨k, hk, rfl, hr, hbr⟩ := hrel
                    by_cases hlt : k < nums.length
                    · have hrn := rnum_drop nums (encTexts (ss.drop 0) ++ tail) k hlt
                      have HRN := Lib.hid hrn
                      clear hrn
                      go_wp2_with fail
                      refine (rnum_some R Q _ false _ _ _ wr hr HRN.out).mono ?_
                      rintro e w9 ⟨rfl, hr9, hg9⟩
                      have hb9 := below_grownBy (Nat.le_refl _) hbr hg9 hR5
                      clear hr hbr hg9
                      go_wp2_with fail
                      go_roundw
                      case rel => exact ⟨k + 1, by omega, by go_num, hr9, hb9⟩
                      case measure => simp [intOf]; omega
                    · have hr' := hr
                      rw [encNums_nil (by omega), List.nil_append] at hr'
                      clear hr8 hb8 hr
                      go_wp2_with fail
                      go_loopw [157] (fun s157 wr => ∃ k : Nat, k ≤ ss.length ∧ s157 = .int .i64 (k : Int) ∧ Reads wr R Q (encTexts (ss.drop k) ++ tail) false ∧ Below w5.heap.size w5 wr) (fun s157 _ => ss.length - (intOf s157).toNat)
                      case atStart => exact ⟨0, by omega, rfl, hr', hbr⟩
                      case round =>
                        clear hr' hbr hlt hk
                        obtain ⟨k, hk, rfl, hr, hbr⟩ := hrel
                        by_cases hlt : k < ss.length
                        · have hrn := rtext_drop ss tail k hlt (HS'.out _ (List.getElem_mem _))
                          have HRN := Lib.hid hrn
                          clear hrn
                          go_wp2_with fail
                          refine (rtext_str R Q _ false _ _ _ wr hr HRN.out).mono ?_
                          rintro e w9 ⟨rfl, hr9, hg9⟩
                          have hb9 := below_grownBy (Nat.le_refl _) hbr hg9 hR5
                          clear hr hbr hg9
                          go_wp2_with fail
                          go_roundw
                          case rel => exact ⟨k + 1, by omega, by go_num, hr9, hb9⟩
                          case measure => simp [intOf]; omega
                        · have hr' := hr
                          rw [encTexts_nil (by omega), List.nil_append] at hr'
                          have hlen31 : tail.length < 32 := by rw [HTA.out, List.length_take]; omega
                          have hid3 := rid_none R Q tail false wr hr' hlen31
                          have HID := Lib.hid hid3
                          clear hid3 hr hr' hlen31
                          go_wp2_with fail
                          refine HID.out.mono ?_
                          rintro e w10 ⟨rfl, hr10, hg10⟩
                          have hb10 := below_grownBy (Nat.le_refl _) hbr hg10 hR5
                          have heq := eq_id0 w10 id0 (by simp [id0])
                          rw [show decide (id0 = List.replicate 32 0) = true from by decide] at heq
                          clear hbr hg10
                          go_wp2_with fail
                          refine (good_any R Q _ true w10 hr10).mono ?_
                          rintro e w11 ⟨rfl, rfl⟩
                          go_wp2_with fail
                          refine (done_any R Q _ true w10 hr10).mono ?_
                          rintro e w11 ⟨rfl, rfl⟩
                          go_wp2_with fail
                          go_ret
                          exact ⟨rfl, hww5.trans (hb10.mono (by omega))⟩
end Go.Proofs.Ytcgfkgkajifpbab
