/-
  The walk of the reference's Sum.
-/
import Derived.Test.YtkgclhkpncegnaaDoorRefL3
import Derived.Test.YtkgclhkpncegnaaDoorRefL4
import Derived.Test.YtkgclhkpncegnaaDoorRefL5
namespace Go.Proofs.YtkgclhkpncegnaaDoor
open Go.RowKit
set_option linter.unusedSimpArgs false
set_option linter.unusedVariables false

set_option maxRecDepth 100000 in
set_option maxHeartbeats 8000000 in
theorem refsha_any (bf br cf cr : Nat) (a : Option Addr) (l : List UInt8) (cap : Nat) (w : World) (hF : WordsAt w bf (wordS startS) 8) (hR : WordsAt w br keyAt 64) (hb : BytesAt w a l) (hl : l.length ≤ 10000) (hcf : 8 ≤ cf) (hcr : 64 ≤ cr) :
    Calls Tryd.prog 10 #[.agg #[.slice (some ⟨bf, 0, none⟩) 8 cf, .slice (some ⟨br, 0, none⟩) 64 cr], .slice a l.length cap] w fun e w' => e = .returned (.agg (bvs (sumL l)).toArray) ∧ Below w.heap.size w w' := by
  obtain ⟨i0, hi, hz0, hz1, hz2⟩ := info_parts infoW
  obtain ⟨w1, hw1⟩ : ∃ w1, w1 = (w.alloc (.cells #[.slice (some ⟨bf, 0, none⟩) 8 cf, .slice (some ⟨br, 0, none⟩) 64 cr] 26)).alloc (.cells (Array.replicate 32 (.int .u8 0)) 28) := ⟨_, rfl⟩
  have hb1 : Below w.heap.size w w1 := by rw [hw1]; exact ((Below.refl _ w).alloc (Nat.le_refl _) _).alloc (by simp) _
  have hs1 : w1.heap.size = w.heap.size + 2 := by rw [hw1]; simp
  have hp1h : w1.heap[w.heap.size]? = some (.cells #[.slice (some ⟨bf, 0, none⟩) 8 cf, .slice (some ⟨br, 0, none⟩) 64 cr] 26 (0, 0)) := by
    rw [hw1, heap_alloc_old _ _ (by simp)]; exact heap_alloc_new w _
  have hr1 : w1.heap[w.heap.size + 1]? = some (.cells (Array.replicate 32 (.int .u8 0)) 28 (0, 0)) := by
    rw [hw1, show w.heap.size + 1 = (w.alloc (.cells #[.slice (some ⟨bf, 0, none⟩) 8 cf, .slice (some ⟨br, 0, none⟩) 64 cr] 26)).heap.size by simp]; exact heap_alloc_new _ _
  have ht0 : w1.cell? ⟨w.heap.size, 0, none⟩ = some (.slice (some ⟨bf, 0, none⟩) 8 cf) := by rw [cell_of_block hp1h]; rfl
  have ht1 : w1.cell? ⟨w.heap.size, 1, none⟩ = some (.slice (some ⟨br, 0, none⟩) 64 cr) := by rw [cell_of_block hp1h]; rfl
  have hbl := blocked_any a l cap w1 (BytesAt.later' hb hb1) (by omega)
  obtain ⟨L, hL⟩ : ∃ L, L = lastL l l.length := ⟨_, rfl⟩
  have hLn : L.length = 64 * refN l := by rw [hL]; exact refAll_len l _
  rw [← hL] at hbl
  obtain ⟨n, hn⟩ : ∃ n, n = refN l := ⟨_, rfl⟩
  have hn2 : n ≤ 200 := by rw [hn]; unfold refN lastN; split <;> omega
  rw [← hn] at hLn
  have HLN := Lib.hid hLn
  have HW1 := Lib.hid hw1
  have HB1 := Lib.hid hb1
  have HS1 := Lib.hid hs1
  have HR1 := Lib.hid hr1
  have HT0 := Lib.hid ht0
  have HT1 := Lib.hid ht1
  have HBL := Lib.hid hbl
  have HL := Lib.hid hL
  have HN := Lib.hid hn
  have HF := Lib.hid (hF.later hb1)
  have HR := Lib.hid (hR.later hb1)
  clear hw1 hb1 hs1 hp1h hr1 ht0 ht1 hbl hL hn hF hR hb hLn
  go_enter Tryd.func10, Tryd.ntmps10
  go_upto_region 1 with (fail)
  change Code.wp _ _ _ _ ((w.alloc (.cells #[.slice (some ⟨bf, 0, none⟩) 8 cf, .slice (some ⟨br, 0, none⟩) 64 cr] 26)).alloc (.cells (Array.replicate 32 (.int .u8 0)) 28))
  rw [← HW1.out]
  go_upto_region 2 with (go_at_call 25; refine HBL.out.mono ?_; rintro e w2 ⟨v5, rfl, hown5, hb2⟩)
  obtain ⟨gL, cL, rfl⟩ := own_slice hown5 (by rw [HLN.out, HN.out]; unfold refN lastN; split <;> omega)
  have hLb := BytesAt.rowAt hown5
  have hcL := own_cap hown5
  have hown0 := ownsRow_empty w2 45
  have hbel0 : Below w2.heap.size w2 (w2.alloc (.cells #[] 45)) := (Below.refl _ w2).alloc (Nat.le_refl _) _
  have HLB := Lib.hid hLb
  have HB2 := Lib.hid hb2
  have HO0 := Lib.hid hown0
  have HE0 := Lib.hid hbel0
  clear hown5 hLb hb2 hown0 hbel0
  go_wp2_with fail
  go_loopw [6, 7] (fun s6 s7 wr => ∃ k : Nat, k ≤ 8 ∧ s7 = .int .i64 (k : Int) ∧ wr.ownsRow w2.heap.size 45 1 s6 k (wl (wordS startS) k) ∧ Below w2.heap.size w2 wr) (fun _ s7 _ => 8 - (intOf s7).toNat)
  case atStart => exact ⟨0, Nat.zero_le _, rfl, HO0.out, HE0.out⟩
  case round =>
    obtain ⟨k, hk, rfl, howr, hbr⟩ := hrel
    have hsz := hbr.size
    by_cases hlt : k < 8
    · have hc0 := cell_later hbr (cell_later HB2.out HT0.out)
      have hc1 := cell_later hbr (cell_later HB2.out (HF.out k hlt))
      obtain ⟨x, hx⟩ : ∃ x, x = wordS startS k := ⟨_, rfl⟩
      rw [← hx] at hc1
      have HX := Lib.hid hx
      clear hx
      go_wp2_with (at_builtin; refine wpList_append_own _ rfl (.tmp 35) (.tmp 41) 24 rfl w2.heap.size 45 i0 (.int .u32 0) 1 4 Tryd.underlying24 hi hz0 hz1 hz2 rfl (by decide) _ _ _ rfl (howr.alloc _) ⟨wr.heap.size, 0, none⟩ 1 1 [.int .u32 (x.toNat : Int)] rfl rfl ?c1 ?c2 ?c3 ?c4 ?c5 ?_)
      case c1 => exact cell_one_new _ _ _
      case c2 => exact vw_one x
      case c3 => unfold maxLen; omega
      case c4 => omega
      case c5 => simp; omega
      intro v' w3 hown' hgrow _
      go_wp2
      go_roundw
      case rel => exact ⟨k + 1, by omega, by go_num, ownsRow_cast hown' rfl (by rw [wl_succ, ← HX.out]; rfl), (hbr.alloc hsz _).grown hgrow (by simp; omega) (fun k hk => (howr.lt k hk).1)⟩
      case measure => simp [intOf]; omega
    · have hk8 : k = 8 := by omega
      have howr8 := howr
      rw [hk8] at howr8
      obtain ⟨gh, ch, rfl⟩ := own_slice howr8 (by omega)
      replace howr := howr8
      clear howr8
      have HK8 := Lib.hid hk8
      clear hk8
      have hH := WordsAt.row howr
      have HH := Lib.hid hH
      have HBR := Lib.hid hbr
      clear howr hbr hsz HO0 HE0 hH HK8
      go_wp2_with fail
      clear hk hlt
      obtain ⟨w4, hw4⟩ : ∃ w4, w4 = wr := ⟨_, rfl⟩
      rw [← hw4] at HH HBR ⊢
      have HB24 : Hid (Below w2.heap.size w2 w4) := HBR
      clear hw4 HBR
      go_loopw [6, 8, 9, 10, 11, 12, 13, 14, 15, 16, 17, 18, 19, 20, 21, 22, 23, 24, 25] (fun s6 s8 _ _ _ _ _ _ _ _ _ _ _ _ _ _ _ _ _ wr => ∃ k gh ch : Nat, k ≤ n ∧ s8 = .int .i64 ((64 * k : Nat) : Int) ∧ s6 = .slice (some ⟨gh, 0, none⟩) 8 ch ∧ WordsAt wr gh (wordS (blocksS L startS k)) 8 ∧ Below w2.heap.size w2 wr) (fun _ s8 _ _ _ _ _ _ _ _ _ _ _ _ _ _ _ _ _ _ => L.length - (intOf s8).toNat)
      case atStart => exact ⟨0, gh, ch, Nat.zero_le _, rfl, rfl, HH.out, HB24.out⟩
      case round =>
        clear HH
        obtain ⟨K, gh, ch, hK, rfl, rfl, hH, hbr⟩ := hrel
        obtain ⟨wA, hwA⟩ : ∃ wA, wA = wr := ⟨_, rfl⟩
        rw [← hwA] at hH hbr ⊢
        clear hwA
        obtain ⟨m, hm⟩ : ∃ m, m = 64 * K := ⟨_, rfl⟩
        rw [← hm]
        by_cases hlt : K < n
        · have hmL : m + 64 ≤ L.length := by rw [HLN.out, hm]; omega
          have hmx : m < 100000 := by rw [hm]; omega
          have hd1 : decide (m < L.length) = true := by simp; omega
          have hd2 : decide ((m : Int) < (L.length : Int)) = true := by simp; omega
          obtain ⟨H, hHs⟩ : ∃ H, H = blocksS L startS K := ⟨_, rfl⟩
          rw [← hHs] at hH
          obtain ⟨blk, hblk⟩ : ∃ blk, blk = (L.drop m).take 64 := ⟨_, rfl⟩
          have hbytes : ∀ i, i < 64 → wA.cell? ⟨gL, m + i, none⟩ = some (.int .u8 ((blk.getD i 0).toNat : Int)) := by
            intro i hi
            have h1 := cell_later hbr (by simpa using HLB.out.at (m + i) (by omega))
            rw [h1, hblk]
            simp [List.getD, hi, List.getElem?_eq_getElem (show m + i < L.length by omega)]
          have HWR := Lib.hid hbr
          have HBY := Lib.hid hbytes
          have HHS := Lib.hid hHs
          have HH := Lib.hid hH
          have HM := Lib.hid hm
          have HBK := Lib.hid hblk
          have hown0 := ownsRow_empty wA 45
          have hbel0 : Below wA.heap.size wA (wA.alloc (.cells #[] 45)) := (Below.refl _ wA).alloc (Nat.le_refl _) _
          have HO0 := Lib.hid hown0
          have HE0 := Lib.hid hbel0
          clear hbr hbytes hHs hH hm hblk hown0 hbel0
          go_wp2_with fail
          refine wp_outer _ (sum_loop3 _ L blk m gL cL wA _ hmL hmx (by have := HLN.out; omega) hd1 hd2 HBY _ _ _ _ _ _ _ _ _ _ _ _ _ _ _ _ _ _ _ _ _ _ _ _ _ _ _ _ _ _ _ _ _ _ _ _ _ _ _ _ _ _ _ _ _ _ _ _ _ _ _ _ _ _ _ _ _ _ _ _ _ _ _ _ _ _ _ _ _ _ _ _ _ _ _ _ _ _ _ _ _ _ _ _ _ _ _ _ _ _ _ _ _ _ _ _ _ _ _ _ _ _ _ _ _ _ _ _ _ _ _ _ _ _ _ _ _ _ _ _ _ _ _ _ _ _ _ _ _ _ _ _ _ _ _ _ _ _ _ _ _ _ _ _ _ _ _ _ _ _ _ _ _ _ _ _ _ _ _ _ _ _ _ _ _ _ _ _ _ _ _ _ _ _ _ _ _ _ _ _ _ _ _ _ _ _ _ _ _ _ _ _ _ _ _ _ _ _ _ _ _ _ _ _ _ _ _ _ _ _ _ _ _ _ _ _ _ _ _ _ _ _ _ _ _ _ _ _ _ _ _ _ _ _ _ _ _ _ _ _ _ _ _ _ _ _ _ _ _ _ _ _ _ _ _ _ _ _ _ _ _ _ _ _ _ _ _ _ _ _ _ _ _ _ _ _ _ _ _ _ _ _ _ _ _ _ _ _ _ _ _ _ _ _ _ _ _ _ _ _ HO0 HE0 ?_)
          clear HO0 HE0
          intro v9 v10 v11 v50 v51 v52 v53 v54 v55 v56 v57 v58 v59 v60 v61 v62 v63 v64 v65 v66 v67 v68 v69 v70 v71 v72 v73 v74 v75 v76 v77 v78 v79 v80 v81 v82 v83 v84 v85 v86 v87 v88 v89 w5 ho5 hb5
          have HO1 := Lib.hid ho5
          have HE1 := Lib.hid hb5
          clear ho5 hb5
          go_wp2_with fail
          refine wp_outer _ (sum_loop4 _ blk wA _ _ _ _ _ _ _ _ _ _ _ _ _ _ _ _ _ _ _ _ _ _ _ _ _ _ _ _ _ _ _ _ _ _ _ _ _ _ _ _ _ _ _ _ _ _ _ _ _ _ _ _ _ _ _ _ _ _ _ _ _ _ _ _ _ _ _ _ _ _ _ _ _ _ _ _ _ _ _ _ _ _ _ _ _ _ _ _ _ _ _ _ _ _ _ _ _ _ _ _ _ _ _ _ _ _ _ _ _ _ _ _ _ _ _ _ _ _ _ _ _ _ _ _ _ _ _ _ _ _ _ _ _ _ _ _ _ _ _ _ _ _ _ _ _ _ _ _ _ _ _ _ _ _ _ _ _ _ _ _ _ _ _ _ _ _ _ _ _ _ _ _ _ _ _ _ _ _ _ _ _ _ _ _ _ _ _ _ _ _ _ _ _ _ _ _ _ _ _ _ _ _ _ _ _ _ _ _ _ _ _ _ _ _ _ _ _ _ _ _ _ _ _ _ _ _ _ _ _ _ _ _ _ _ _ _ _ _ _ _ _ _ _ _ _ _ _ _ _ _ _ _ _ _ _ _ _ _ _ _ _ _ _ _ _ _ _ _ _ _ _ _ _ _ _ _ _ _ _ _ _ _ _ _ _ _ _ _ _ _ _ _ _ _ _ _ _ _ _ _ _ _ _ HO1 HE1 ?_)
          clear HO1 HE1
          intro x9 x12 x13 x14 x90 x91 x92 x93 x94 x95 x96 x97 x98 x99 x100 x101 x102 x103 x104 x105 x106 x107 x108 x109 x110 x111 x112 x113 x114 x115 x116 x117 x118 x119 x120 x121 x122 x123 x124 x125 x126 x127 x128 x129 x130 x131 x132 x133 x134 x135 x136 x137 x138 x139 x140 x141 x142 x143 x144 x145 x146 x147 x148 x149 x150 x151 wr howr64 hbr
          obtain ⟨gw, cw, rfl⟩ := own_slice howr64 (by omega)
          have hW := WordsAt.row howr64
          have HW := Lib.hid hW
          have HBR := Lib.hid hbr
          obtain ⟨wB, hwB⟩ : ∃ wB, wB = wr := ⟨_, rfl⟩
          rw [← hwB] at HW HBR ⊢
          clear howr64 hW hbr hwB
          have hh : ∀ i, i < 8 → ∀ W, Below wB.heap.size wB W → W.cell? ⟨gh, i, none⟩ = some (.int .u32 ((wordS H i).toNat : Int)) := fun i hi W h => cell_later h (cell_later HBR.out (HH.out i hi))
          have g0 := hh 0 (by omega)
          have g1 := hh 1 (by omega)
          have g2 := hh 2 (by omega)
          have g3 := hh 3 (by omega)
          have g4 := hh 4 (by omega)
          have g5 := hh 5 (by omega)
          have g6 := hh 6 (by omega)
          have g7 := hh 7 (by omega)
          have G0 : Hid (∀ W, Below wB.heap.size wB W → W.cell? ⟨gh, 0, none⟩ = some (.int .u32 (H.a.toNat : Int))) := Lib.hid g0
          have G1 : Hid (∀ W, Below wB.heap.size wB W → W.cell? ⟨gh, 1, none⟩ = some (.int .u32 (H.b.toNat : Int))) := Lib.hid g1
          have G2 : Hid (∀ W, Below wB.heap.size wB W → W.cell? ⟨gh, 2, none⟩ = some (.int .u32 (H.c.toNat : Int))) := Lib.hid g2
          have G3 : Hid (∀ W, Below wB.heap.size wB W → W.cell? ⟨gh, 3, none⟩ = some (.int .u32 (H.d.toNat : Int))) := Lib.hid g3
          have G4 : Hid (∀ W, Below wB.heap.size wB W → W.cell? ⟨gh, 4, none⟩ = some (.int .u32 (H.e.toNat : Int))) := Lib.hid g4
          have G5 : Hid (∀ W, Below wB.heap.size wB W → W.cell? ⟨gh, 5, none⟩ = some (.int .u32 (H.f.toNat : Int))) := Lib.hid g5
          have G6 : Hid (∀ W, Below wB.heap.size wB W → W.cell? ⟨gh, 6, none⟩ = some (.int .u32 (H.g.toNat : Int))) := Lib.hid g6
          have G7 : Hid (∀ W, Below wB.heap.size wB W → W.cell? ⟨gh, 7, none⟩ = some (.int .u32 (H.h.toNat : Int))) := Lib.hid g7
          clear hh g0 g1 g2 g3 g4 g5 g6 g7
          go_upto_region 22 with (fail)
          refine wp_region_below' (w0 := wB) (B := wB.heap.size) (by kernel_rfl) (by kernel_rfl) (Below.refl _ _) ?_
          repeat (first
            | go_big_quiet_skip
            | (go_big_quiet_want
               first
                 | (refine quiet_load_cell 45 (.tmp 153) rfl ⟨gh, 0, none⟩ rfl (.int .u32 (H.a.toNat : Int)) _ G0.out Tryd.underlying45 rfl ?_
                    simp only [Act.put, List.setIfInBounds_toArray, List.set_cons_zero, List.set_cons_succ]
                    go_big_quiet_on)
                 | (refine quiet_load_cell 45 (.tmp 156) rfl ⟨gh, 1, none⟩ rfl (.int .u32 (H.b.toNat : Int)) _ G1.out Tryd.underlying45 rfl ?_
                    simp only [Act.put, List.setIfInBounds_toArray, List.set_cons_zero, List.set_cons_succ]
                    go_big_quiet_on)
                 | (refine quiet_load_cell 45 (.tmp 159) rfl ⟨gh, 2, none⟩ rfl (.int .u32 (H.c.toNat : Int)) _ G2.out Tryd.underlying45 rfl ?_
                    simp only [Act.put, List.setIfInBounds_toArray, List.set_cons_zero, List.set_cons_succ]
                    go_big_quiet_on)
                 | (refine quiet_load_cell 45 (.tmp 162) rfl ⟨gh, 3, none⟩ rfl (.int .u32 (H.d.toNat : Int)) _ G3.out Tryd.underlying45 rfl ?_
                    simp only [Act.put, List.setIfInBounds_toArray, List.set_cons_zero, List.set_cons_succ]
                    go_big_quiet_on)
                 | (refine quiet_load_cell 45 (.tmp 165) rfl ⟨gh, 4, none⟩ rfl (.int .u32 (H.e.toNat : Int)) _ G4.out Tryd.underlying45 rfl ?_
                    simp only [Act.put, List.setIfInBounds_toArray, List.set_cons_zero, List.set_cons_succ]
                    go_big_quiet_on)
                 | (refine quiet_load_cell 45 (.tmp 168) rfl ⟨gh, 5, none⟩ rfl (.int .u32 (H.f.toNat : Int)) _ G5.out Tryd.underlying45 rfl ?_
                    simp only [Act.put, List.setIfInBounds_toArray, List.set_cons_zero, List.set_cons_succ]
                    go_big_quiet_on)
                 | (refine quiet_load_cell 45 (.tmp 171) rfl ⟨gh, 6, none⟩ rfl (.int .u32 (H.g.toNat : Int)) _ G6.out Tryd.underlying45 rfl ?_
                    simp only [Act.put, List.setIfInBounds_toArray, List.set_cons_zero, List.set_cons_succ]
                    go_big_quiet_on)
                 | (refine quiet_load_cell 45 (.tmp 174) rfl ⟨gh, 7, none⟩ rfl (.int .u32 (H.h.toNat : Int)) _ G7.out Tryd.underlying45 rfl ?_
                    simp only [Act.put, List.setIfInBounds_toArray, List.set_cons_zero, List.set_cons_succ]
                    go_big_quiet_on)
                 | (go_big_quiet_op
                    first | refine ⟨_, fun _ _ => rfl, ?_⟩ | refine ⟨_, fun _ _ _ => rfl, ?_⟩ | refine ⟨_, fun _ _ _ _ => rfl, ?_⟩
                    go_big_quiet_on)
                 | (go_big_quiet_op
                    go_big_quiet_on)))
          refine wpQuiet_nil ?_
          intro w8 hb8
          have HB8 := Lib.hid hb8
          clear hb8
          go_wp2_with fail
          refine wp_outer _ (sum_loop5 _ blk H w.heap.size br cr gw cw wB _ (Lib.hid (cell_later HBR.out (cell_later HWR.out (cell_later HB2.out HT1.out)))) (Lib.hid (((HR.out.later HB2.out).later HWR.out).later HBR.out)) HW hcr _ _ _ _ _ _ _ _ _ _ _ _ _ _ _ _ _ _ _ _ _ _ _ _ _ _ _ _ _ _ _ _ _ _ _ _ _ _ _ _ _ _ _ _ _ _ _ _ _ _ _ _ _ _ _ _ _ _ _ _ _ _ _ _ _ _ _ _ _ _ _ _ _ _ _ _ _ _ _ _ _ _ _ _ _ _ _ _ _ _ _ _ _ _ _ _ _ _ _ _ _ _ _ _ _ _ _ _ _ _ _ _ _ _ _ _ _ _ _ _ _ _ _ _ _ _ _ _ _ _ _ _ _ _ _ _ _ _ _ _ _ _ _ _ _ _ _ _ _ _ _ _ _ _ _ _ _ _ _ _ _ _ _ _ _ _ _ _ _ _ _ _ _ _ _ _ _ _ _ _ _ _ _ _ _ _ _ _ _ _ _ _ _ _ _ _ _ _ _ _ _ _ _ _ _ _ _ _ _ _ _ _ _ _ _ _ _ _ _ _ _ _ _ _ _ _ _ _ _ _ _ _ _ _ _ _ _ _ _ _ _ _ _ _ _ _ _ _ _ _ _ _ _ _ _ _ _ _ _ _ _ _ _ _ _ _ _ _ _ _ _ _ _ _ _ _ _ _ _ _ _ _ _ _ _ _ _ _ _ _ _ _ HB8 ?_)
          intro S y23 y24 y25 y176 y177 y178 y179 y180 y181 y182 y183 y184 y185 y186 y187 y188 y189 y190 y191 y192 y193 y194 y195 y196 y197 y198 y199 y200 y201 y202 y203 y204 y205 y206 y207 y208 y209 y210 y211 y212 y213 y214 y215 y216 y217 y218 y219 y220 y221 y222 y223 y224 y225 y226 y227 y228 y229 y230 y231 y232 y233 y234 y235 y236 y237 y238 y239 y240 y241 wr hS hbr
          obtain ⟨Sa, Sb, Sc, Sd, Se, Sf, Sg, Sh⟩ := S
          obtain ⟨Ha, Hb, Hc, Hd, He, Hf, Hg, Hh⟩ := H
          dsimp only at G0 G1 G2 G3 G4 G5 G6 G7 ⊢
          obtain ⟨Q0, hQ0⟩ : ∃ x : BitVec 32, x = Ha + Sa := ⟨_, rfl⟩
          have eQ0 : IntKind.u32.wrap ((Ha.toNat : Int) + (Sa.toNat : Int)) = (Q0.toNat : Int) := by rw [hQ0]; exact wrap_add _ _
          obtain ⟨Q1, hQ1⟩ : ∃ x : BitVec 32, x = Hb + Sb := ⟨_, rfl⟩
          have eQ1 : IntKind.u32.wrap ((Hb.toNat : Int) + (Sb.toNat : Int)) = (Q1.toNat : Int) := by rw [hQ1]; exact wrap_add _ _
          obtain ⟨Q2, hQ2⟩ : ∃ x : BitVec 32, x = Hc + Sc := ⟨_, rfl⟩
          have eQ2 : IntKind.u32.wrap ((Hc.toNat : Int) + (Sc.toNat : Int)) = (Q2.toNat : Int) := by rw [hQ2]; exact wrap_add _ _
          obtain ⟨Q3, hQ3⟩ : ∃ x : BitVec 32, x = Hd + Sd := ⟨_, rfl⟩
          have eQ3 : IntKind.u32.wrap ((Hd.toNat : Int) + (Sd.toNat : Int)) = (Q3.toNat : Int) := by rw [hQ3]; exact wrap_add _ _
          obtain ⟨Q4, hQ4⟩ : ∃ x : BitVec 32, x = He + Se := ⟨_, rfl⟩
          have eQ4 : IntKind.u32.wrap ((He.toNat : Int) + (Se.toNat : Int)) = (Q4.toNat : Int) := by rw [hQ4]; exact wrap_add _ _
          obtain ⟨Q5, hQ5⟩ : ∃ x : BitVec 32, x = Hf + Sf := ⟨_, rfl⟩
          have eQ5 : IntKind.u32.wrap ((Hf.toNat : Int) + (Sf.toNat : Int)) = (Q5.toNat : Int) := by rw [hQ5]; exact wrap_add _ _
          obtain ⟨Q6, hQ6⟩ : ∃ x : BitVec 32, x = Hg + Sg := ⟨_, rfl⟩
          have eQ6 : IntKind.u32.wrap ((Hg.toNat : Int) + (Sg.toNat : Int)) = (Q6.toNat : Int) := by rw [hQ6]; exact wrap_add _ _
          obtain ⟨Q7, hQ7⟩ : ∃ x : BitVec 32, x = Hh + Sh := ⟨_, rfl⟩
          have eQ7 : IntKind.u32.wrap ((Hh.toNat : Int) + (Sh.toNat : Int)) = (Q7.toNat : Int) := by rw [hQ7]; exact wrap_add _ _
          have hadd : blockS blk ⟨Ha, Hb, Hc, Hd, He, Hf, Hg, Hh⟩ = ⟨Q0, Q1, Q2, Q3, Q4, Q5, Q6, Q7⟩ := by
            rw [blockS, ← hS, hQ0, hQ1, hQ2, hQ3, hQ4, hQ5, hQ6, hQ7]
            simp only [addS, BitVec.add_comm]
          have HADD := Lib.hid hadd
          clear hS hadd hQ0 hQ1 hQ2 hQ3 hQ4 hQ5 hQ6 hQ7
          go_upto_region 29 with (fail)
          refine wp_region_sched (fun W => Below wB.heap.size wB W) [([0, 1, 2, 3, 4, 5, 6, 7, 8, 9, 10, 11, 12, 13, 14, 15, 16, 17, 18, 19, 20, 21, 22, 23, 24, 25, 26, 27, 28, 29, 30, 31, 32, 33, 34, 35, 36, 37, 38, 39], 40)] [41] (by kernel_rfl) (by kernel_rfl) (fun _ _ d _ _ h => by cases d <;> exact h) (by kernel_rfl) (of_decide_eq_true (by kernel_rfl)) hbr.drew ?_
          refine wpSched_cons ?_
          dsimp only [opsAt, List.filterMap, List.getElem?_cons_zero, List.getElem?_cons_succ]
          repeat (first
            | go_big_quiet_skip
            | (go_big_quiet_want
               first
                 | (refine quiet_load_cell 45 (.tmp 243) rfl ⟨gh, 0, none⟩ rfl (.int .u32 (Ha.toNat : Int)) _ G0.out Tryd.underlying45 rfl ?_
                    simp only [Act.put, List.setIfInBounds_toArray, List.set_cons_zero, List.set_cons_succ]
                    go_big_quiet_on)
                 | (refine quiet_load_cell 45 (.tmp 248) rfl ⟨gh, 1, none⟩ rfl (.int .u32 (Hb.toNat : Int)) _ G1.out Tryd.underlying45 rfl ?_
                    simp only [Act.put, List.setIfInBounds_toArray, List.set_cons_zero, List.set_cons_succ]
                    go_big_quiet_on)
                 | (refine quiet_load_cell 45 (.tmp 253) rfl ⟨gh, 2, none⟩ rfl (.int .u32 (Hc.toNat : Int)) _ G2.out Tryd.underlying45 rfl ?_
                    simp only [Act.put, List.setIfInBounds_toArray, List.set_cons_zero, List.set_cons_succ]
                    go_big_quiet_on)
                 | (refine quiet_load_cell 45 (.tmp 258) rfl ⟨gh, 3, none⟩ rfl (.int .u32 (Hd.toNat : Int)) _ G3.out Tryd.underlying45 rfl ?_
                    simp only [Act.put, List.setIfInBounds_toArray, List.set_cons_zero, List.set_cons_succ]
                    go_big_quiet_on)
                 | (refine quiet_load_cell 45 (.tmp 263) rfl ⟨gh, 4, none⟩ rfl (.int .u32 (He.toNat : Int)) _ G4.out Tryd.underlying45 rfl ?_
                    simp only [Act.put, List.setIfInBounds_toArray, List.set_cons_zero, List.set_cons_succ]
                    go_big_quiet_on)
                 | (refine quiet_load_cell 45 (.tmp 268) rfl ⟨gh, 5, none⟩ rfl (.int .u32 (Hf.toNat : Int)) _ G5.out Tryd.underlying45 rfl ?_
                    simp only [Act.put, List.setIfInBounds_toArray, List.set_cons_zero, List.set_cons_succ]
                    go_big_quiet_on)
                 | (refine quiet_load_cell 45 (.tmp 273) rfl ⟨gh, 6, none⟩ rfl (.int .u32 (Hg.toNat : Int)) _ G6.out Tryd.underlying45 rfl ?_
                    simp only [Act.put, List.setIfInBounds_toArray, List.set_cons_zero, List.set_cons_succ]
                    go_big_quiet_on)
                 | (refine quiet_load_cell 45 (.tmp 278) rfl ⟨gh, 7, none⟩ rfl (.int .u32 (Hh.toNat : Int)) _ G7.out Tryd.underlying45 rfl ?_
                    simp only [Act.put, List.setIfInBounds_toArray, List.set_cons_zero, List.set_cons_succ]
                    go_big_quiet_on)
                 | (go_big_quiet_op
                    first | refine ⟨_, fun _ _ => rfl, ?_⟩ | refine ⟨_, fun _ _ _ => rfl, ?_⟩ | refine ⟨_, fun _ _ _ _ => rfl, ?_⟩
                    go_big_quiet_on)
                 | (go_big_quiet_op
                    go_big_quiet_on)))
          refine wpQuiet_nil ?_
          intro KK hKK
          go_simp
          refine hKK _ ((wr.alloc (.cells (rowS ⟨Q0, Q1, Q2, Q3, Q4, Q5, Q6, Q7⟩) 45)).drew) (hbr.alloc hbr.size _).drew ?_
          clear hKK KK
          try simp only [Act.put, List.setIfInBounds_toArray, List.set_cons_zero, List.set_cons_succ]
          refine wpSched_nil ?_
          dsimp only [opsAt, List.filterMap, List.getElem?_cons_zero, List.getElem?_cons_succ]
          repeat (first
            | go_big_quiet_skip
            | (go_big_quiet_want
               first
                 | (go_big_quiet_op
                    first | refine ⟨_, fun _ _ => rfl, ?_⟩ | refine ⟨_, fun _ _ _ => rfl, ?_⟩ | refine ⟨_, fun _ _ _ _ => rfl, ?_⟩
                    go_big_quiet_on)
                 | (go_big_quiet_op
                    go_big_quiet_on)))
          refine wpQuiet_nil ?_
          go_wp2
          go_roundw
          case rel =>
            refine ⟨K + 1, wr.heap.size, 8, by omega, ?_, rfl, ?_, HWR.out.trans (((HBR.out.trans (hbr.mono HBR.out.size)).alloc (Nat.le_trans HBR.out.size hbr.size) _).drew.mono HWR.out.size)⟩
            · congr 1; have := HM.out; omega
            · intro i hi
              have e : blocksS L startS (K + 1) = ⟨Q0, Q1, Q2, Q3, Q4, Q5, Q6, Q7⟩ := by
                rw [blocksS, ← HHS.out, ← HM.out, ← HBK.out]
                exact HADD.out
              rw [e]
              have h1 : ((wr.alloc (.cells (rowS ⟨Q0, Q1, Q2, Q3, Q4, Q5, Q6, Q7⟩) 45)).drew).heap[wr.heap.size]? = some (.cells (rowS ⟨Q0, Q1, Q2, Q3, Q4, Q5, Q6, Q7⟩) 45 (0, 0)) := heap_alloc_new wr _
              rw [cell_of_block h1, rowS_wrow, wrow_get _ _ _ hi]
              rfl
          case measure => simp only [intOf]; omega
        ·
            have hKn : K = n := by omega
            have hge : L.length ≤ m := by have := HLN.out; omega
            have hd1 : decide (m < L.length) = false := by simp; omega
            have hd2 : decide ((m : Int) < (L.length : Int)) = false := by simp; omega
            clear hm
            rw [hKn] at hH
            obtain ⟨S, hS⟩ : ∃ S, S = blocksS L startS n := ⟨_, rfl⟩
            rw [← hS] at hH
            obtain ⟨V, hV⟩ : ∃ V, V = (bvs (sumL l)).toArray := ⟨_, rfl⟩
            have hVB : brow (bTo S 32) 32 = V := by rw [brow_all, hV, ← refSum_eq, ← HL.out, ← HN.out, ← hS]
            have hVz : V.size = 32 := by rw [← hVB, brow_size]
            have hV1 : V.all (·.oneCell') = true := by rw [hV]; simpa using bvs_oneCell (sumL l)
            have hVs : (Tryd.prog.info? 28).map (·.size) = some V.size := by rw [hVz]; kernel_rfl
            have hV32 : (Array.replicate 32 (Value.int .u8 0)).size = V.size := by rw [hVz]; rfl
            have hzs : (Tryd.prog.info? 28).map (·.size) = some (Array.replicate 32 (Value.int .u8 0)).size := by kernel_rfl
            have hz1 : (Array.replicate 32 (Value.int .u8 0)).all (·.oneCell') = true := by rw [Array.all_eq_true]; intro i hi; simp [Value.oneCell']
            obtain ⟨wC, hwC⟩ : ∃ wC, wC = (wA.alloc (.cells (Array.replicate 32 (.int .u8 0)) 28)).setRow wA.heap.size (Array.replicate 32 (.int .u8 0)) := ⟨_, rfl⟩
            have hgo : wC.heap[wA.heap.size]? = some (.cells (brow (bTo S 0) 32) 28 (0, 0)) := by rw [hwC, brow_zero]; exact setRow_heap _ _ (Array.replicate 32 (.int .u8 0)) _ _ _ (heap_alloc_new wA _)
            have hbC : Below wA.heap.size wA wC := by rw [hwC]; exact below_setRow ((Below.refl _ wA).alloc (Nat.le_refl _) _) (Nat.le_refl _) _
            have hres : wC.heap[w.heap.size + 1]? = some (.cells (Array.replicate 32 (.int .u8 0)) 28 (0, 0)) := by
              have h1 := HS1.out
              have h2 := HB2.out.size
              have h3 := hbr.size
              rw [hbC.block _ (by omega), hbr.block _ (by omega), HB2.out.block _ (by omega)]
              exact HR1.out
            have hHC := hH.later hbC
            have hgh : gh < wA.heap.size := by
              have h1 := hH 0 (by omega)
              exact World.block_lt_of_cell? wA _ h1
            have hghO : gh ≠ wA.heap.size := by omega
            have hresO : w.heap.size + 1 ≠ wA.heap.size := by have h1 := HS1.out; have h2 := HB2.out.size; have h3 := hbr.size; omega
            have hwc : Below w.heap.size w wC := HB1.out.trans ((HB2.out.trans ((hbr.trans (hbC.mono hbr.size)).mono HB2.out.size)).mono HB1.out.size)
            have hwO : w.heap.size ≤ wA.heap.size := by have h1 := HS1.out; have h2 := HB2.out.size; have h3 := hbr.size; omega
            have HVB := Lib.hid hVB
            have HV := Lib.hid hV
            have HV1 := Lib.hid hV1
            have HVS := Lib.hid hVs
            have HV32 := Lib.hid hV32
            have HZS := Lib.hid hzs
            have HZ1 := Lib.hid hz1
            have HWC := Lib.hid hwC
            have HGO := Lib.hid hgo
            have HRES := Lib.hid hres
            have HHC := Lib.hid hHC
            have HWCB := Lib.hid hwc
            obtain ⟨gO, hgO⟩ : ∃ gO, gO = wA.heap.size := ⟨_, rfl⟩
            clear hS hVB hV hVz hV1 hVs hV32 hzs hz1 hwC hgo hres hHC hH hbC hwc hbr
            go_upto_region 31 with (refine wpList_store_row rfl 28 (.tmp 26) (.tmp 283) rfl wA.heap.size (Array.replicate 32 (.int .u8 0)) rfl rfl 28 (Array.replicate 32 (.int .u8 0)) (heap_alloc_new wA _) HZS.out rfl HZ1.out ?_)
            change Code.wp _ _ _ _ ((wA.alloc (.cells (Array.replicate 32 (.int .u8 0)) 28)).setRow wA.heap.size (Array.replicate 32 (.int .u8 0)))
            rw [← HWC.out]
            rw [← hgO] at HGO hghO hresO hwO ⊢
            clear hgO HWC
            go_wp2_with fail
            go_loopw [27] (fun s27 wx => ∃ k : Nat, k ≤ 32 ∧ s27 = .int .i64 (k : Int) ∧ wx.heap[gO]? = some (.cells (brow (bTo S k) 32) 28 (0, 0)) ∧ wC.grownBy wx (some gO)) (fun s27 _ => 32 - (intOf s27).toNat)
            case atStart => exact ⟨0, by omega, rfl, HGO.out, World.grownBy.refl _ _⟩
            case round =>
              obtain ⟨k, hk, rfl, hg, hgr⟩ := hrel
              by_cases hlt : k < 32
              · obtain ⟨q, hq⟩ : ∃ q : Nat, q = k / 4 := ⟨_, rfl⟩
                obtain ⟨r, hr⟩ : ∃ r : Nat, r = k % 4 := ⟨_, rfl⟩
                have eq4 : (k : Int) / 4 = (q : Int) := by omega
                have er4 : (k : Int) % 4 = (r : Int) := by omega
                have hr4 : r < 4 := by omega
                have hq8 : q < 8 := by omega
                obtain ⟨x, hx⟩ : ∃ x, x = wordS S q := ⟨_, rfl⟩
                have hc1 : (World.cell? wr ⟨gh, q, none⟩) = some (.int .u32 (x.toNat : Int)) := by rw [hx]; exact hgr.cell (HHC.out q hq8) (by intro e; injection e with e; exact hghO e)
                have hc2 : (World.cell? wr ⟨gO, k, none⟩) = some (.int .u8 0) := by
                  rw [cell_of_block hg, brow_get _ _ _ hlt]
                  simp [bTo]
                have hf2 : (World.frozen? wr ⟨gO, k, none⟩) = false := free_of_block hg
                have hv : (x.toNat : Int) / 2 ^ (24 - 8 * r) % 256 = ((byteS S k).toNat : Int) := by
                  have h1 := byte_val S q r hr4
                  rw [show 4 * q + r = k by omega, ← hx, show 8 * (3 - r) = 24 - 8 * r by omega] at h1
                  exact h1
                have hxl := x.isLt
                have HV8 := Lib.hid hv
                have HGG := Lib.hid hg
                have HGR := Lib.hid hgr
                clear hv hg hgr hx hq hr
                go_wp2
                go_roundw
                case rel => exact ⟨k + 1, by omega, by go_num, by rw [heap_setCell_same _ _ _ _ _ _ HGG.out, HV8.out, brow_set _ _ _ hlt], grownBy_trans HGR.out (grownBy_setCell _ _ _ _)⟩
                case measure => simp [intOf]; omega
              · obtain rfl : k = 32 := by omega
                rw [HVB.out] at hg
                have hr2 := (hgr.block (w.heap.size + 1) (lt_of_block HRES.out) (by intro e; injection e with e; exact hresO e)).trans HRES.out
                have hfin := below_grownBy (Nat.le_refl _) HWCB.out hgr hwO
                have HGG := Lib.hid hg
                have HRR := Lib.hid hr2
                clear hg hr2 hgr
                go_wp2_with (first | (refine wpList_load_row rfl 28 (.tmp 26) rfl gO rfl 28 V (0, 0) _ HGG.out Tryd.underlying28 rfl HVS.out ?_) | (refine wpList_store_row rfl 28 (.tmp 4) (.tmp 302) rfl (w.heap.size + 1) V rfl rfl 28 _ HRR.out HVS.out HV32.out HV1.out ?_))
                refine bodyPost_ret (v := .agg V) (results_cell_row rfl _ _ (w.heap.size + 1) 28 V (0, 0) _ rfl (setRow_heap _ (w.heap.size + 1) _ V _ _ HRR.out) Tryd.underlying28 rfl HVS.out) rfl ?_
                exact ⟨by rw [HV.out], below_setRow hfin (by omega) V⟩
end Go.Proofs.YtkgclhkpncegnaaDoor
