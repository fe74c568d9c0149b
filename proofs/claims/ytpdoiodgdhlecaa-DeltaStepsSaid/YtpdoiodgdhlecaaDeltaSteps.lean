/-
  The walk of DeltaSteps.
-/
import Derived.Test.YtpdoiodgdhlecaaTwoRows
import Derived.Laws.BitsAllLaws
namespace Go.Proofs.Ytpdoiodgdhlecaa
open Go.RowKit
set_option linter.unusedSimpArgs false
set_option linter.unusedVariables false

theorem and_i64_bounds (x : Int) (m : Nat) (h : m < 2147483648) : 0 ≤ bits .and .i64 x (m : Int) ∧ bits .and .i64 x (m : Int) ≤ (m : Int) := by
  have h2 : (BitVec.ofInt 64 (m : Int)).toNat = m := by
    rw [BitVec.ofInt_natCast, BitVec.toNat_ofNat]; exact Nat.mod_eq_of_lt (by omega)
  have e : bits .and .i64 x (m : Int) = IntKind.i64.wrap ((BitVec.ofInt 64 x &&& BitVec.ofInt 64 (m : Int)).toNat : Int) := rfl
  rw [e, BitVec.toNat_and, h2]
  have h3 : (BitVec.ofInt 64 x).toNat &&& m ≤ m := Nat.and_le_right
  rw [IntWalk.i64_in _ (by omega)]
  omega
theorem pick_part (x : Int) (L : Nat) (hL : 0 < L) (hL2 : L ≤ 1000000) : ∃ m f : Nat, bits .and .i64 x 1048575 = (m : Int) ∧ m ≤ 1048575 ∧ f < L ∧ (m : Int) % (L : Int) = (f : Int) ∧ (m : Int).tmod (L : Int) = (f : Int) := by
  have h := and_i64_bounds x 1048575 (by omega)
  obtain ⟨m, hm⟩ : ∃ m : Nat, bits .and .i64 x 1048575 = (m : Int) := ⟨(bits .and .i64 x 1048575).toNat, by simp at h; omega⟩
  have hm2 : m ≤ 1048575 := by simp at h; omega
  refine ⟨m, m % L, hm, hm2, Nat.mod_lt _ hL, by simp, ?_⟩
  rw [Int.tmod_eq_emod_of_nonneg (by omega)]
  simp
theorem enc_len (N : Nat) (h : N ≤ 2097151) : (encNum N).length ≤ 3 := by
  have := encNum_length_le 2 N (by omega)
  omega

set_option maxRecDepth 100000 in
set_option maxHeartbeats 8000000 in
theorem deltaSteps_any (a0 : Option Addr) (base : List UInt8) (c0 : Nat) (a1 : Option Addr) (ps : List (Int × Int)) (cp : Nat) (a2 : Option Addr) (own : List UInt8) (co : Nat) (w : World)
    (hb0 : BytesAt w a0 base) (hn0 : a0 = none → c0 = 0) (hl0 : base.length ≤ c0) (hm0 : c0 ≤ 9223372036854775807) (hps : PairsAt w a1 ps) (hlp : ps.length ≤ cp) (hmp : cp ≤ 9223372036854775807)
    (hb2 : BytesAt w a2 own) (hn2 : a2 = none → co = 0) (hl2 : own.length ≤ co) (hm2 : co ≤ 9223372036854775807) :
    Calls Try.prog 6 #[.slice a0 base.length c0, .slice a1 ps.length cp, .slice a2 own.length co] w fun e w' => e = .returned (.bool true) ∧ Below w.heap.size w w' := by
  have HB0 := Lib.hid hb0
  have HN0 := Lib.hid hn0
  have HPS := Lib.hid hps
  have HB2 := Lib.hid hb2
  have HN2 := Lib.hid hn2
  clear hb0 hn0 hps hb2 hn2
  obtain ⟨L, hL⟩ : ∃ L, L = base.length := ⟨_, rfl⟩
  obtain ⟨q, hq⟩ : ∃ q, q = ps.length := ⟨_, rfl⟩
  obtain ⟨m, hm⟩ : ∃ m, m = own.length := ⟨_, rfl⟩
  rw [← hL] at hl0 ⊢
  rw [← hq] at hlp ⊢
  rw [← hm] at hl2 ⊢
  have HL := Lib.hid hL
  have HQ := Lib.hid hq
  have HM := Lib.hid hm
  clear hL hq hm
  go_enter Try.func6, Try.ntmps6
  go_wp2_with fail
  refine (applying_any _).mono ?_
  rintro e w1 ⟨rfl, hw1⟩
  by_cases h1 : L = 0
  · subst h1
    go_wp2_with fail
    go_ret
    exact ⟨rfl, hw1⟩
  have d1 : ((L : Int) == 0) = false := by simp; omega
  by_cases h2 : 2000 < L
  · have d2 : (2000 : Int) < (L : Int) := by omega
    go_wp2_with fail
    go_ret
    exact ⟨rfl, hw1⟩
  have d2 : ¬ (2000 : Int) < (L : Int) := by omega
  by_cases h3 : 20 < q
  · have d3 : (20 : Int) < (q : Int) := by omega
    go_wp2_with fail
    go_ret
    exact ⟨rfl, hw1⟩
  have d3 : ¬ (20 : Int) < (q : Int) := by omega
  by_cases h4 : 500 < m
  · have d4 : (500 : Int) < (m : Int) := by omega
    go_wp2_with fail
    go_ret
    exact ⟨rfl, hw1⟩
  have d4 : ¬ (500 : Int) < (m : Int) := by omega
  have HW1 := Lib.hid hw1
  clear hw1
  go_upto_region 7 with (fail)
  clear d1 d2 d3 d4
  obtain ⟨B, hB⟩ : ∃ B, B = w1.heap.size := ⟨_, rfl⟩
  obtain ⟨w3, hw3⟩ : ∃ w3, w3 = (w1.alloc (.cells #[] 5)).alloc (.cells #[] 5) := ⟨_, rfl⟩
  have htr : TwoRows w B B 0 0 (B + 1) 0 0 [] [] w3 := by
    have e1 := ownsRow_empty w1 5
    have e2 := ownsRow_empty (w1.alloc (.cells #[] 5)) 5
    have b1 : Below w1.heap.size w1 (w1.alloc (.cells #[] 5)) := (Below.refl _ w1).alloc (Nat.le_refl _) _
    have b2 : Below (w1.alloc (.cells #[] 5)).heap.size (w1.alloc (.cells #[] 5)) w3 := by rw [hw3]; exact (Below.refl _ _).alloc (Nat.le_refl _) _
    have s1 : (w1.alloc (.cells #[] 5)).heap.size = B + 1 := by rw [hB]; simp
    rw [← hw3] at e2
    rw [s1] at e2
    rw [← hB] at e1
    exact ⟨ownsRow_below e1 b2, ownsRow_mono e2 (Nat.le_succ _), by omega, HW1.out.trans ((b1.trans (b2.mono b1.size)).mono HW1.out.size), by have h9 := b2.size; rw [s1] at h9; omega, by rw [hB]; exact HW1.out.size⟩
  have HTR := Lib.hid htr
  rw [← hw3, ← hB]
  clear hB hw3 htr HW1
  go_wp2_with fail
  go_loopw [7, 8, 47] (fun s7 s8 s47 wx => ∃ (k g1 n1 k1 g2 n2 k2 : Nat) (S W : List UInt8), k ≤ q ∧ s47 = .int .i64 (k : Int) ∧ s7 = .slice (some ⟨g1, 0, none⟩) n1 k1 ∧ s8 = .slice (some ⟨g2, 0, none⟩) n2 k2 ∧ n1 ≤ 600 * k ∧ n2 ≤ 2500 * k ∧ Hid (TwoRows w B g1 n1 k1 g2 n2 k2 S W wx) ∧ Hid (Emits base S W ∧ S.length = n1 ∧ W.length = n2)) (fun _ _ s47 _ => q - (intOf s47).toNat)
  case atStart => exact ⟨0, B, 0, 0, B + 1, 0, 0, [], [], by omega, rfl, rfl, rfl, by omega, by omega, HTR, Lib.hid ⟨Emits.nil _, rfl, rfl⟩⟩
  case round =>
    clear HTR
    obtain ⟨k, g1, n1, k1, g2, n2, k2, S, W, hk, rfl, rfl, rfl, hn1, hn2, HT, HE⟩ := hrel
    by_cases hlt : k < q
    · obtain ⟨b, off, hab, hx0, hy0⟩ := HPS.out k (by rw [← HQ.out]; exact hlt)
      subst hab
      obtain ⟨x, hx⟩ : ∃ x, x = ps[k].1 := ⟨_, rfl⟩
      obtain ⟨y, hy⟩ : ∃ y, y = ps[k].2 := ⟨_, rfl⟩
      rw [← hx] at hx0
      rw [← hy] at hy0
      have hrg : wr.rangeAt b (off + k * 2) [.int .i64 x, .int .i64 y] := by
        intro j v hv
        match j, hv with
        | 0, hv => simp at hv; subst hv; exact cell_later HT.out.below hx0
        | 1, hv => simp at hv; subst hv; rw [show off + k * 2 + 1 = off + (k * 2 + 1) by omega]; exact cell_later HT.out.below hy0
        | j + 2, hv => simp at hv
      have HRG := Lib.hid hrg
      obtain ⟨m1, f, e1, hm1, hfL, e2, e3⟩ := pick_part x L (by omega) (by omega)
      obtain ⟨d, hd⟩ : ∃ d, d = L - f := ⟨_, rfl⟩
      have hd0 : 0 < d := by omega
      obtain ⟨m2, r, e4, hm3, hrd, e5, e6⟩ := pick_part y d hd0 (by omega)
      have e7 : (L : Int) - (f : Int) = (d : Int) := by omega
      obtain ⟨n, hn⟩ : ∃ n, n = 1 + r := ⟨_, rfl⟩
      have hn1' : 1 ≤ n := by omega
      have hfn : f + n ≤ L := by omega
      have e8 : (1 : Int) + (r : Int) = (n : Int) := by omega
      obtain ⟨N, hN⟩ : ∃ N, N = 2 * n + 1 := ⟨_, rfl⟩
      have e9 : (2 : Int) * (n : Int) + 1 = (N : Int) := by omega
      obtain ⟨fn, hfn'⟩ : ∃ fn, fn = f + n := ⟨_, rfl⟩
      have e10 : (f : Int) + (n : Int) = (fn : Int) := by omega
      have hz : (wr.alloc (.cells #[.int .i64 0, .int .i64 0] 34)).heap[wr.heap.size]? = some (.cells #[.int .i64 0, .int .i64 0] 34 (0, 0)) := heap_alloc_new wr _
      have HZ := Lib.hid hz
      have hsz2 : (Try.prog.info? 34).map (·.size) = some 2 := by kernel_rfl
      have HS2 := Lib.hid hsz2
      clear hx0 hy0 hx hy hrg hd hz hsz2 hrd
      --BODY
      have hpart := slice_part a0 base f n c0 (by rw [← HL.out]; exact hfn) HN0.out (by rw [← HL.out]; exact hl0) hm0
      rw [← HL.out] at hpart
      obtain ⟨pp, c9, hsl, hpp, hpn, hpl, hpc⟩ := hpart
      have hPl : ((base.drop f).take n).length = n := by rw [List.length_take, List.length_drop, ← HL.out]; omega
      rw [hPl] at hsl
      rw [← hfn'] at hsl
      have hcopy := HE.out.1.copy (n := n) (f := f) hn1' (by have := HE.out.2.2; omega) (by rw [← HL.out]; exact hfn) (by rw [← HL.out]; omega)
      rw [← hN] at hcopy
      obtain ⟨PP, hPP⟩ : ∃ PP, PP = (base.drop f).take n := ⟨_, rfl⟩
      rw [← hPP] at hpp hPl hcopy
      have HCOPY := Lib.hid hcopy
      have HPP := Lib.hid hpp
      have HPL := Lib.hid hPl
      have HPN := Lib.hid hpn
      have HSL := Lib.hid hsl
      have hN4 : N ≤ 4001 := by omega
      have hn2000 : n ≤ 2000 := by omega
      have hf2000 : f ≤ 2000 := by omega
      clear hcopy hpp hPl hpn hPP hpl hN hfn' hn hfn hsl
      obtain ⟨w4, hw4⟩ : ∃ w4, w4 = wr.alloc (.cells #[.int .i64 x, .int .i64 y] 34) := ⟨_, rfl⟩
      have na : w4.heap[wr.heap.size]? = some (.cells #[.int .i64 x, .int .i64 y] 34 (0, 0)) := by rw [hw4]; exact heap_alloc_new wr _
      have nb : Below wr.heap.size wr w4 := by rw [hw4]; exact (Below.refl _ wr).alloc (Nat.le_refl _) _
      have HNA := Lib.hid na
      have HNB := Lib.hid nb
      have HW4 := Lib.hid hw4
      clear na nb hw4
      go_upto_region 10 with (refine wpList_load_mid rfl 34 (.tmp 49) rfl b (off + k * 2) rfl [.int .i64 x, .int .i64 y] _ HRG.out Try.underlying34 rfl HS2.out ?_)
      rw [← HW4.out]
      have na := HNA.out
      have nb := HNB.out
      clear HNA HNB
      have cx : w4.cell? ⟨wr.heap.size, 0, none⟩ = some (.int .i64 x) := cell_of_block na
      have cy : w4.cell? ⟨wr.heap.size, 1, none⟩ = some (.int .i64 y) := cell_of_block na
      have HT4 := Lib.hid (HT.out.later nb)
      clear HW4 na nb HT HZ HRG
      go_wp2_with fail
      clear cx cy e1 e2 e3 e4 e5 e6 e7 e8
      refine (num_ref N (by omega) w4).mono ?_
      rintro e w5 ⟨aE1, cE1, rfl, hbE1, hnE1, hlE1, hcE1, hwE1⟩
      obtain ⟨E1, hE1⟩ : ∃ E, E = encNum N := ⟨_, rfl⟩
      rw [← hE1] at hbE1 hlE1 ⊢
      obtain ⟨z1, hz1⟩ : ∃ z, z = E1.length := ⟨_, rfl⟩
      rw [← hz1] at hlE1 ⊢
      have hzE1 : z1 ≤ 3 := by rw [hz1, hE1]; exact enc_len _ (by omega)
      have HT5 := Lib.hid (HT4.out.later hwE1)
      have HBE1 := Lib.hid hbE1
      have HNE1 := Lib.hid hnE1
      have HE1 := Lib.hid hE1
      have Hz1 := Lib.hid hz1
      clear hbE1 hnE1 hE1 hz1 hwE1
      go_wp2_with (at_builtin; refine wpList_append_two rfl (.tmp 66) (.tmp 70) rfl B g1 n1 k1 S rfl HT5.out.one aE1 E1 z1 cE1 Hz1.out.symm rfl HBE1.out HNE1.out (by omega) HT5.out.size ?_; intro g3 c3 w6 hog3 hgg3 hfg3; have HT6 := Lib.hid (HT5.out.addOne hog3 hgg3 hfg3); clear hog3 hgg3 hfg3)
      refine (num_ref f (by omega) w6).mono ?_
      rintro e w7 ⟨aE2, cE2, rfl, hbE2, hnE2, hlE2, hcE2, hwE2⟩
      obtain ⟨E2, hE2⟩ : ∃ E, E = encNum f := ⟨_, rfl⟩
      rw [← hE2] at hbE2 hlE2 ⊢
      obtain ⟨z2, hz2⟩ : ∃ z, z = E2.length := ⟨_, rfl⟩
      rw [← hz2] at hlE2 ⊢
      have hzE2 : z2 ≤ 3 := by rw [hz2, hE2]; exact enc_len _ (by omega)
      have HT7 := Lib.hid (HT6.out.later hwE2)
      have HBE2 := Lib.hid hbE2
      have HNE2 := Lib.hid hnE2
      have HE2 := Lib.hid hE2
      have Hz2 := Lib.hid hz2
      clear hbE2 hnE2 hE2 hz2 hwE2
      rw [← HE1.out, ← HE2.out] at HCOPY
      have hsl := HSL.out
      go_upto_region 14 with (first
        | (at_builtin; refine wpList_append_two rfl (.tmp 71) (.tmp 73) rfl B g3 (n1 + z1) c3 (S ++ E1) rfl HT7.out.one aE2 E2 z2 cE2 Hz2.out.symm rfl HBE2.out HNE2.out (by omega) HT7.out.size ?_; intro g4 c4 w8 hog4 hgg4 hfg4; have HT8 := Lib.hid (HT7.out.addOne hog4 hgg4 hfg4); clear hog4 hgg4 hfg4)
        | (at_builtin; refine wpList_append_two rfl (.tmp 75) (.tmp 81) rfl B g2 n2 k2 W rfl HT8.out.two pp PP n c9 HPL.out rfl (HPP.out _ (HB0.out.later HT8.out.below)) HPN.out (by omega) HT8.out.size ?_; intro g5 c5 w9 hog5 hgg5 hfg5; have HT9 := Lib.hid (HT8.out.addTwo hog5 hgg5 hfg5); clear hog5 hgg5 hfg5))
      clear hsl
      have hlens : (S ++ E1 ++ E2).length = n1 + z1 + z2 ∧ (W ++ PP).length = n2 + n := by
        rw [List.length_append, List.length_append, List.length_append, HE.out.2.1, HE.out.2.2, ← Hz1.out, ← Hz2.out, HPL.out]
        exact ⟨rfl, rfl⟩
      have HLENS := Lib.hid hlens
      clear hlens HSL HE
      by_cases hm00 : m = 0
      · have dm : ¬ (0 : Int) < (m : Int) := by omega
        go_wp2_with fail
        go_roundw
        case rel => exact ⟨k + 1, g4, _, c4, g5, _, c5, _, _, by omega, by go_num, rfl, rfl, by omega, by omega, HT9, Lib.hid ⟨HCOPY.out, HLENS.out.1, HLENS.out.2⟩⟩
        case measure => first | (simp [intOf]; done) | (simp [intOf]; omega)
      · have dm : (0 : Int) < (m : Int) := by omega
        obtain ⟨M, hM2⟩ : ∃ M, M = 2 * m := ⟨_, rfl⟩
        have eM : (2 : Int) * (m : Int) = (M : Int) := by omega
        have hown := Emits.own (own := own) HCOPY.out (by rw [← HM.out]; omega) (by rw [HLENS.out.2, ← HM.out]; omega)
        rw [← HM.out, ← hM2] at hown
        have HOWN := Lib.hid hown
        have hM1000 : M ≤ 1000 := by omega
        clear hown hM2
        go_wp2_with fail
        refine (num_ref M (by omega) w9).mono ?_
        rintro e w10 ⟨aE3, cE3, rfl, hbE3, hnE3, hlE3, hcE3, hwE3⟩
        obtain ⟨E3, hE3⟩ : ∃ E, E = encNum M := ⟨_, rfl⟩
        rw [← hE3] at hbE3 hlE3 ⊢
        obtain ⟨z3, hz3⟩ : ∃ z, z = E3.length := ⟨_, rfl⟩
        rw [← hz3] at hlE3 ⊢
        have hzE3 : z3 ≤ 3 := by rw [hz3, hE3]; exact enc_len _ (by omega)
        have HT10 := Lib.hid (HT9.out.later hwE3)
        have HBE3 := Lib.hid hbE3
        have HNE3 := Lib.hid hnE3
        have HE3 := Lib.hid hE3
        have Hz3 := Lib.hid hz3
        clear hbE3 hnE3 hE3 hz3 hwE3
        rw [← HE3.out] at HOWN
        go_wp2_with (first
          | (at_builtin; refine wpList_append_two rfl (.tmp 86) (.tmp 90) rfl B g4 (n1 + z1 + z2) c4 (S ++ E1 ++ E2) rfl HT10.out.one aE3 E3 z3 cE3 Hz3.out.symm rfl HBE3.out HNE3.out (by omega) HT10.out.size ?_; intro g6 c6 w11 hog6 hgg6 hfg6; have HT11 := Lib.hid (HT10.out.addOne hog6 hgg6 hfg6); clear hog6 hgg6 hfg6)
          | (at_builtin; refine wpList_append_two rfl (.tmp 91) (.tmp 92) rfl B g6 (n1 + z1 + z2 + z3) c6 (S ++ E1 ++ E2 ++ E3) rfl HT11.out.one a2 own m co HM.out.symm rfl (HB2.out.later HT11.out.below) HN2.out (by omega) HT11.out.size ?_; intro g7 c7 w12 hog7 hgg7 hfg7; have HT12 := Lib.hid (HT11.out.addOne hog7 hgg7 hfg7); clear hog7 hgg7 hfg7)
          | (at_builtin; refine wpList_append_two rfl (.tmp 94) (.tmp 95) rfl B g5 (n2 + n) c5 (W ++ PP) rfl HT12.out.two a2 own m co HM.out.symm rfl (HB2.out.later HT12.out.below) HN2.out (by omega) HT12.out.size ?_; intro g8 c8 w13 hog8 hgg8 hfg8; have HT13 := Lib.hid (HT12.out.addTwo hog8 hgg8 hfg8); clear hog8 hgg8 hfg8))
        go_roundw
        case rel => exact ⟨k + 1, g7, _, c7, g8, _, c8, _, _, by omega, by go_num, rfl, rfl, by omega, by omega, HT13, Lib.hid ⟨HOWN.out, by rw [List.length_append, List.length_append, HLENS.out.1, ← Hz3.out, ← HM.out], by rw [List.length_append, HLENS.out.2, ← HM.out]⟩⟩
        case measure => first | (simp [intOf]; done) | (simp [intOf]; omega)
    ·
      obtain rfl : k = q := by omega
      have HEM := Lib.hid HE.out.1
      have HSn := Lib.hid HE.out.2.1
      have HWn := Lib.hid HE.out.2.2
      clear HE hlt hk
      go_wp2_with fail
      refine (num_ref n2 (by omega) wr).mono ?_
      rintro e w5 ⟨aE0, cE0, rfl, hbE0, hnE0, hlE0, hcE0, hwE0⟩
      obtain ⟨E0, hE0⟩ : ∃ E, E = encNum n2 := ⟨_, rfl⟩
      rw [← hE0] at hbE0 hlE0 ⊢
      obtain ⟨z0, hz0⟩ : ∃ z, z = E0.length := ⟨_, rfl⟩
      rw [← hz0] at hlE0 ⊢
      have hzE0 : z0 ≤ 9 := by rw [hz0, hE0]; exact encNum_le9 (by omega)
      have HT5 := Lib.hid (HT.out.later hwE0)
      have HBE0 := Lib.hid hbE0
      have HNE0 := Lib.hid hnE0
      have HE0 := Lib.hid hE0
      have Hz0 := Lib.hid hz0
      clear hbE0 hnE0 hE0 hz0 hwE0
      have HR0 := Lib.hid (Below.refl w5.heap.size w5)
      have HOa := Lib.hid (show (w5.alloc (.cells #[] 5)).ownsRow w5.heap.size 5 1 (.slice (some ⟨w5.heap.size, 0, none⟩) 0 0) 0 (bvs []) from ownsRow_mono (ownsRow_empty w5 5) HR0.out.size)
      have HSa := Lib.hid (show Below w5.heap.size w5 (w5.alloc (.cells #[] 5)) from HR0.out.alloc HR0.out.size _)
      have d19 : applyD base (E0 ++ S) = (0, W) := by
        rw [HE0.out, emits_apply HEM.out n2 (by omega), if_pos HWn.out]
      have HD19 := Lib.hid d19
      clear d19
      go_wp2_with (first
        | (at_builtin; refine wpList_append_first rfl (.tmp 103) (.tmp 104) rfl w5.heap.size w5.heap.size 0 rfl HOa.out aE0 E0 z0 cE0 Hz0.out.symm rfl (HBE0.out.later HSa.out) HNE0.out (by omega) HSa.out.size ?_; intro g3 c3 w6 hog3 hgg3 hfg3; have HOg3 := Lib.hid hog3; have HSw6 := Lib.hid (HSa.out.grown hgg3 HSa.out.size (fun k hk => by injection hk with hk; have := ((HOa.out).lt w5.heap.size rfl).1; omega)); clear hog3 hgg3 hfg3)
        | (at_builtin; refine wpList_append_two rfl (.tmp 105) (.tmp 106) rfl w5.heap.size g3 z0 c3 E0 rfl HOg3.out (some ⟨g1, 0, none⟩) S n1 k1 HSn.out rfl (BytesAt.rowAt (HT5.out.later HSw6.out).one) (fun h => by simp at h) (by omega) HSw6.out.size ?_; intro g4 c4 w7 hog4 hgg4 hfg4; have HOg4 := Lib.hid hog4; have HSw7 := Lib.hid (HSw6.out.grown hgg4 HSw6.out.size (fun k hk => by injection hk with hk; have := ((HOg3.out).lt g3 rfl).1; omega)); clear hog4 hgg4 hfg4))
      have hlen4 : (E0 ++ S).length = z0 + n1 := by rw [List.length_append, ← Hz0.out, HSn.out]
      have hap := apply_any a0 base c0 (some ⟨g4, 0, none⟩) (E0 ++ S) c4 w7 (HB0.out.later (HT5.out.below.trans (HSw7.out.mono HT5.out.below.size))) HN0.out (by rw [← HL.out]; exact hl0) hm0 (BytesAt.rowAt HOg4.out) (fun h => by simp at h) (by rw [hlen4]; exact (own_cap HOg4.out).1) (own_cap HOg4.out).2
      unfold DApplied at hap
      rw [HD19.out] at hap
      rw [hlen4, ← HL.out] at hap
      rw [HWn.out] at hap
      have HAP := Lib.hid hap
      clear hap hlen4
      refine HAP.out.mono ?_
      clear HAP
      rintro e w8 ⟨hw8, -, a8, c8, rfl, hb8, hl8, hc8⟩
      have HS8 := Lib.hid (HSw7.out.trans (hw8.mono HSw7.out.size))
      have HB8 := Lib.hid hb8
      have hsz := size_any aE0 n2 cE0 w8 (by omega) (by rw [← HE0.out]; exact HBE0.out.later HS8.out) HNE0.out (by rw [← HE0.out, ← Hz0.out]; exact hlE0) hcE0
      rw [← HE0.out, ← Hz0.out] at hsz
      have HSZ := Lib.hid hsz
      clear hsz hb8 hw8
      go_wp2_with fail
      refine HSZ.out.mono ?_
      clear HSZ
      rintro e w9 ⟨rfl, hw9⟩
      have HS9 := Lib.hid (HS8.out.trans (hw9.mono HS8.out.size))
      have hsame := same_any a8 (some ⟨g2, 0, none⟩) W W c8 k2 w9 (HB8.out.later hw9) (BytesAt.rowAt (HT5.out.later HS9.out).two) (by have := HWn.out; omega) (by have := HWn.out; omega)
      rw [show decide (W = W) = true by simp, HWn.out] at hsame
      have HSAME := Lib.hid hsame
      clear hsame hw9
      go_wp2_with fail
      refine HSAME.out.mono ?_
      clear HSAME
      rintro e w10 ⟨rfl, hw10⟩
      have HS10 := Lib.hid (HS9.out.trans (hw10.mono HS9.out.size))
      clear hw10
      have HOb := Lib.hid (show (w10.alloc (.cells #[] 5)).ownsRow w5.heap.size 5 1 (.slice (some ⟨w10.heap.size, 0, none⟩) 0 0) 0 (bvs []) from ownsRow_mono (ownsRow_empty w10 5) HS10.out.size)
      have HSb := Lib.hid (show Below w5.heap.size w5 (w10.alloc (.cells #[] 5)) from HS10.out.alloc HS10.out.size _)
      go_wp2_with (first
        | (at_builtin; refine wpList_append_first rfl (.tmp 134) (.tmp 135) rfl w5.heap.size w10.heap.size 0 rfl HOb.out aE0 E0 z0 cE0 Hz0.out.symm rfl (HBE0.out.later HSb.out) HNE0.out (by omega) HSb.out.size ?_; intro g5 c5 w11 hog5 hgg5 hfg5; have HOg5 := Lib.hid hog5; have HSw11 := Lib.hid (HSb.out.grown hgg5 HSb.out.size (fun k hk => by injection hk with hk; have := ((HOb.out).lt w10.heap.size rfl).1; omega)); clear hog5 hgg5 hfg5)
        | (at_builtin; refine wpList_append_two rfl (.tmp 136) (.tmp 137) rfl w5.heap.size g5 z0 c5 E0 rfl HOg5.out (some ⟨g1, 0, none⟩) S n1 k1 HSn.out rfl (BytesAt.rowAt (HT5.out.later HSw11.out).one) (fun h => by simp at h) (by omega) HSw11.out.size ?_; intro g6 c6 w12 hog6 hgg6 hfg6; have HOg6 := Lib.hid hog6; have HSw12 := Lib.hid (HSw11.out.grown hgg6 HSw11.out.size (fun k hk => by injection hk with hk; have := ((HOg5.out).lt g5 rfl).1; omega)); clear hog6 hgg6 hfg6)
        | (at_builtin; refine wpList_append_two rfl (.tmp 138) (.tmp 139) rfl w5.heap.size g6 (z0 + n1) c6 (E0 ++ S) rfl (HOg6.out.alloc (.cells #[.int .u8 3] 5)) (some ⟨w12.heap.size, 0, none⟩) [3] 1 1 rfl rfl (BytesAt.alloc_new w12 [3] #[.int .u8 3] 5 rfl) (fun h => by simp at h) (by omega) (HSw12.out.alloc HSw12.out.size (.cells #[.int .u8 3] 5)).size ?_; intro g7 c7 w13 hog7 hgg7 hfg7; have HOg7 := Lib.hid hog7; have HSw13 := Lib.hid ((HSw12.out.alloc HSw12.out.size (.cells #[.int .u8 3] 5)).grown hgg7 (HSw12.out.alloc HSw12.out.size (.cells #[.int .u8 3] 5)).size (fun k hk => by injection hk with hk; have := (((HOg6.out.alloc (.cells #[.int .u8 3] 5))).lt g6 rfl).1; omega)); clear hog7 hgg7 hfg7))
      refine (num_ref L (by omega) w13).mono ?_
      rintro e w14 ⟨aE4, cE4, rfl, hbE4, hnE4, hlE4, hcE4, hwE4⟩
      obtain ⟨E4, hE4⟩ : ∃ E, E = encNum L := ⟨_, rfl⟩
      rw [← hE4] at hbE4 hlE4 ⊢
      obtain ⟨z4, hz4⟩ : ∃ z, z = E4.length := ⟨_, rfl⟩
      rw [← hz4] at hlE4 ⊢
      have hzE4 : z4 ≤ 9 := by rw [hz4, hE4]; exact encNum_le9 (by omega)
      have HSw14 := Lib.hid (HSw13.out.trans (hwE4.mono HSw13.out.size))
      have HBE4 := Lib.hid hbE4
      have HNE4 := Lib.hid hnE4
      have HE4 := Lib.hid hE4
      have Hz4 := Lib.hid hz4
      clear hbE4 hnE4 hE4 hz4
      have HO7 := Lib.hid (ownsRow_below HOg7.out hwE4)
      clear hwE4
      have d25 : applyD base (E0 ++ S ++ [3] ++ E4) = (70, []) := by
        have h9 := emits_over HEM.out (by rw [HWn.out]; omega) (by rw [← HL.out]; omega)
        rw [HWn.out, ← HE0.out, ← HL.out, ← HE4.out] at h9
        exact h9
      have HD25 := Lib.hid d25
      clear d25
      go_wp2_with (at_builtin; refine wpList_append_two rfl (.tmp 141) (.tmp 144) rfl w5.heap.size g7 (z0 + n1 + 1) c7 (E0 ++ S ++ [3]) rfl HO7.out aE4 E4 z4 cE4 Hz4.out.symm rfl HBE4.out HNE4.out (by omega) HSw14.out.size ?_; intro g8 c10 w15 hog8 hgg8 hfg8; have HOg8 := Lib.hid hog8; have HSw15 := Lib.hid (HSw14.out.grown hgg8 HSw14.out.size (fun k hk => by injection hk with hk; have := ((HO7.out).lt g7 rfl).1; omega)); clear hog8 hgg8 hfg8)
      have hlen5 : (E0 ++ S ++ [3] ++ E4).length = z0 + n1 + 1 + z4 := by rw [List.length_append, List.length_append, List.length_append, ← Hz0.out, HSn.out, ← Hz4.out]; rfl
      have hap := apply_any a0 base c0 (some ⟨g8, 0, none⟩) (E0 ++ S ++ [3] ++ E4) c10 w15 (HB0.out.later (HT5.out.below.trans (HSw15.out.mono HT5.out.below.size))) HN0.out (by rw [← HL.out]; exact hl0) hm0 (BytesAt.rowAt HOg8.out) (fun h => by simp at h) (by rw [hlen5]; exact (own_cap HOg8.out).1) (own_cap HOg8.out).2
      unfold DApplied at hap
      rw [HD25.out, hlen5, ← HL.out] at hap
      have HAP := Lib.hid hap
      clear hap hlen5
      refine HAP.out.mono ?_
      clear HAP
      rintro e w16 ⟨hw16, -, a16, c16, rfl, -⟩
      have HS16 := Lib.hid (HSw15.out.trans (hw16.mono HSw15.out.size))
      clear hw16
      have HOc := Lib.hid (show (w16.alloc (.cells #[] 5)).ownsRow w5.heap.size 5 1 (.slice (some ⟨w16.heap.size, 0, none⟩) 0 0) 0 (bvs []) from ownsRow_mono (ownsRow_empty w16 5) HS16.out.size)
      have HSc := Lib.hid (show Below w5.heap.size w5 (w16.alloc (.cells #[] 5)) from HS16.out.alloc HS16.out.size _)
      go_wp2_with fail
      have en1 : (n2 : Int) + 1 = ((n2 + 1 : Nat) : Int) := by simp
      rw [en1]
      clear en1
      refine (num_ref (n2 + 1) (by omega) _).mono ?_
      rintro e w17 ⟨aE5, cE5, rfl, hbE5, hnE5, hlE5, hcE5, hwE5⟩
      obtain ⟨E5, hE5⟩ : ∃ E, E = encNum (n2 + 1) := ⟨_, rfl⟩
      rw [← hE5] at hbE5 hlE5 ⊢
      obtain ⟨z5, hz5⟩ : ∃ z, z = E5.length := ⟨_, rfl⟩
      rw [← hz5] at hlE5 ⊢
      have hzE5 : z5 ≤ 9 := by rw [hz5, hE5]; exact encNum_le9 (by omega)
      have HSw17 := Lib.hid (HSc.out.trans (hwE5.mono HSc.out.size))
      have HBE5 := Lib.hid hbE5
      have HNE5 := Lib.hid hnE5
      have HE5 := Lib.hid hE5
      have Hz5 := Lib.hid hz5
      clear hbE5 hnE5 hE5 hz5
      have HO9 := Lib.hid (ownsRow_below HOc.out hwE5)
      clear hwE5
      have d26 : applyD base (E5 ++ S) = (20, []) := by
        rw [HE5.out, emits_apply HEM.out (n2 + 1) (by omega), if_neg (by rw [HWn.out]; omega)]
      have HD26 := Lib.hid d26
      clear d26
      go_wp2_with (first
        | (at_builtin; refine wpList_append_first rfl (.tmp 154) (.tmp 158) rfl w5.heap.size w16.heap.size 0 rfl HO9.out aE5 E5 z5 cE5 Hz5.out.symm rfl HBE5.out HNE5.out (by omega) HSw17.out.size ?_; intro g9 c11 w18 hog9 hgg9 hfg9; have HOg9 := Lib.hid hog9; have HSw18 := Lib.hid (HSw17.out.grown hgg9 HSw17.out.size (fun k hk => by injection hk with hk; have := ((HO9.out).lt w16.heap.size rfl).1; omega)); clear hog9 hgg9 hfg9)
        | (at_builtin; refine wpList_append_two rfl (.tmp 159) (.tmp 160) rfl w5.heap.size g9 z5 c11 E5 rfl HOg9.out (some ⟨g1, 0, none⟩) S n1 k1 HSn.out rfl (BytesAt.rowAt (HT5.out.later HSw18.out).one) (fun h => by simp at h) (by omega) HSw18.out.size ?_; intro g10 c12 w19 hog10 hgg10 hfg10; have HOg10 := Lib.hid hog10; have HSw19 := Lib.hid (HSw18.out.grown hgg10 HSw18.out.size (fun k hk => by injection hk with hk; have := ((HOg9.out).lt g9 rfl).1; omega)); clear hog10 hgg10 hfg10))
      have hlen6 : (E5 ++ S).length = z5 + n1 := by rw [List.length_append, ← Hz5.out, HSn.out]
      have hap := apply_any a0 base c0 (some ⟨g10, 0, none⟩) (E5 ++ S) c12 w19 (HB0.out.later (HT5.out.below.trans (HSw19.out.mono HT5.out.below.size))) HN0.out (by rw [← HL.out]; exact hl0) hm0 (BytesAt.rowAt HOg10.out) (fun h => by simp at h) (by rw [hlen6]; exact (own_cap HOg10.out).1) (own_cap HOg10.out).2
      unfold DApplied at hap
      rw [HD26.out, hlen6, ← HL.out] at hap
      have HAP := Lib.hid hap
      clear hap hlen6
      refine HAP.out.mono ?_
      clear HAP
      rintro e w20 ⟨hw20, -, a20, c20, rfl, -⟩
      have HS20 := Lib.hid (HSw19.out.trans (hw20.mono HSw19.out.size))
      clear hw20
      go_wp2_with fail
      go_ret
      exact ⟨rfl, HT5.out.below.trans (HS20.out.mono HT5.out.below.size)⟩
theorem deltaSteps_walk (w : World) (a0 : Option Addr) (len0 cap0 : Nat) (z0 : List Int) (w0 : IsRow .u8 w a0 len0 cap0 z0) (a1 : Option Addr) (ps : List (Int × Int)) (cap1 : Nat) (hps : PairsAt w a1 ps) (hlp : ps.length ≤ cap1) (hmp : cap1 ≤ 9223372036854775807) (a2 : Option Addr) (len2 cap2 : Nat) (z2 : List Int) (w2 : IsRow .u8 w a2 len2 cap2 z2) :
    Calls Try.prog 6 #[.slice a0 len0 cap0, .slice a1 ps.length cap1, .slice a2 len2 cap2] w fun e w' => e = .returned (.bool true) ∧ Below w.heap.size w w' := by
  have n0 := isRow_none w0
  have n2 := isRow_none w2
  obtain ⟨l0, rfl, hl0, hm0, hb0⟩ := w0.bytes
  obtain ⟨l2, rfl, hl2, hm2, hb2⟩ := w2.bytes
  exact deltaSteps_any a0 l0 cap0 a1 ps cap1 a2 l2 cap2 w hb0 n0 hl0 (by omega) hps hlp hmp hb2 n2 hl2 (by omega)
end Go.Proofs.Ytpdoiodgdhlecaa
