/-
  The walk of delta's firstStep.
-/
import Derived.Test.YtpdoiodgdhlecaaDNum
namespace Go.Proofs.Ytpdoiodgdhlecaa
open Go.RowKit
set_option linter.unusedSimpArgs false
set_option linter.unusedVariables false

/-- A step of a delta: an error, or what comes out of it and what is behind it. -/
def DStep (a1 : Option Addr) (base : List UInt8) (a : Option Addr) (D : List UInt8) (o cap : Nat) (w : World) (e : Ending) (w' : World) : Prop :=
  Below w.heap.size w w' ∧ ((∃ er : Int, stepD base D o = .inl er ∧ e = .returned (.tuple #[.slice none 0 0, .slice none 0 0, .int .i64 er])) ∨
    ∃ p r a2 c2 a3 c3, stepD base D o = .inr (p, r) ∧ e = .returned (.tuple #[.slice a2 p.length c2, .slice a3 r.length c3, .int .i64 0]) ∧ (∀ W, BytesAt W a1 base → BytesAt W a D → BytesAt W a2 p) ∧ (a2 = none → c2 = 0) ∧ (∀ W, BytesAt W a D → BytesAt W a3 r) ∧ (a3 = none → c3 = 0) ∧ r.length ≤ c3 ∧ c3 ≤ cap)

theorem add_small (p k : Nat) (hp : (p : Int) ≤ 4611686018427387904) (hk : k ≤ 1048576) : wrap64 ((p : Int) + (k : Int)) = ((p + k : Nat) : Int) := by
  rw [IntWalk.wrap64_in _ (by omega)]
  simp

set_option maxRecDepth 100000 in
set_option maxHeartbeats 2000000 in
theorem dstep_any (a1 : Option Addr) (base : List UInt8) (c1 : Nat) (a : Option Addr) (D : List UInt8) (cap o : Nat) (w : World) (hb1 : BytesAt w a1 base) (hn1 : a1 = none → c1 = 0) (hl1 : base.length ≤ c1) (hc1 : c1 ≤ 9223372036854775807) (hb : BytesAt w a D) (hn : a = none → cap = 0) (hl : D.length ≤ cap) (hc : cap ≤ 9223372036854775807) (ho : o ≤ 1048576) :
    Calls Try.prog 18 #[.slice a1 base.length c1, .slice a D.length cap, .int .i64 (1048576 - (o : Int))] w (DStep a1 base a D o cap w) := by
  have hnum := dnum_any a D cap 4611686018427387904 w hb hn hl hc
  have HB1 := Lib.hid hb1
  have HN1 := Lib.hid hn1
  have HBD := Lib.hid hb
  have HNUM := Lib.hid hnum
  have hst : stepD base D o = stepD base D o := rfl
  conv at hst => rhs; unfold stepD
  have HST := Lib.hid hst
  clear hb1 hn1 hb hn hnum hst
  obtain ⟨most, hmost⟩ : ∃ most : Int, most = 1048576 - (o : Int) := ⟨_, rfl⟩
  rw [← hmost]
  unfold DStep
  go_enter Try.func18, Try.ntmps18
  go_wp2_with fail
  refine HNUM.out.mono ?_
  clear HNUM
  unfold DNum
  rintro e w1 ⟨hw1, ⟨hd, a', n', c', rfl⟩ | ⟨N, l', a', c', hd, rfl, hb', hn', hl', hc'⟩⟩
  · go_wp2_with fail
    go_ret3
    exact ⟨hw1, .inl ⟨20, by rw [HST.out, hd], rfl⟩⟩
  · have hst2 := HST.out
    rw [hd] at hst2
    simp only at hst2
    have HS2 := Lib.hid hst2
    have HW1 := Lib.hid hw1
    have HB' : Hid (∀ W, BytesAt W a D → BytesAt W a' l') := Lib.hid hb'
    have HBA := Lib.hid (HBD.out.later hw1)
    have HN' := Lib.hid hn'
    obtain ⟨k, hk⟩ : ∃ k, k = N / 2 := ⟨_, rfl⟩
    have ek : (N : Int) / 2 = (k : Int) := by omega
    have hN62 := (rnum_cut_some D _ N l' hd).2.2.2.2
    rw [← hk] at HS2
    clear HST hst2 hw1 hb' hn' hd hk
    by_cases h1 : k < 1
    · have d1 : (k : Int) < 1 := by omega
      go_wp2_with fail
      go_ret3
      exact ⟨HW1.out, .inl ⟨20, by rw [HS2.out, if_pos (Or.inl h1)], rfl⟩⟩
    · by_cases h2 : 1048576 < k + o
      · have d2 : most < (k : Int) := by omega
        have d1 : ¬ (k : Int) < 1 := by omega
        go_wp2_with fail
        go_ret3
        exact ⟨HW1.out, .inl ⟨20, by rw [HS2.out, if_pos (Or.inr h2)], rfl⟩⟩
      · have d2 : ¬ most < (k : Int) := by omega
        have d1 : ¬ (k : Int) < 1 := by omega
        have hst3 := HS2.out
        rw [if_neg (by omega)] at hst3
        have HS3 := Lib.hid hst3
        clear HS2 hst3 hmost
        by_cases h3 : N % 2 = 0
        · have eq : (N : Int) % 2 = 0 := by omega
          have hst4 := HS3.out
          rw [if_pos h3] at hst4
          have HS4 := Lib.hid hst4
          clear HS3 hst4 h1 h2 h3
          by_cases h4 : l'.length < k
          · have d4 : (l'.length : Int) < (k : Int) := by omega
            go_wp2_with fail
            go_ret3
            exact ⟨HW1.out, .inl ⟨20, by rw [HS4.out, if_pos h4], rfl⟩⟩
          · have d4 : ¬ (l'.length : Int) < (k : Int) := by omega
            have hsh := slice_high a' l' k c' (by omega) HN'.out hl' (by omega)
            obtain ⟨pp, c3, hsl, hpp, hpn, hpl, hpc⟩ := slice_low a' l' k c' (by omega) HN'.out hl' (by omega)
            have HSH := Lib.hid hsh
            have HSL := Lib.hid hsl
            clear hsh hsl
            go_upto_region 8 with (fail)
            refine wp_region_below' (w0 := w1) (B := w1.heap.size) (by kernel_rfl) (by kernel_rfl) (Below.refl _ _) ?_
            repeat (first
              | go_big_quiet_skip
              | (go_big_quiet_want
                 first
                   | (refine quiet_slice_high 22 (.tmp 39) (.tmp 40) rfl _ HSH.out ?_
                      simp only [Act.put, List.setIfInBounds_toArray, List.set_cons_zero, List.set_cons_succ]
                      go_big_quiet_on)
                   | (refine quiet_slice_low 22 (.tmp 42) (.tmp 43) rfl _ HSL.out ?_
                      simp only [Act.put, List.setIfInBounds_toArray, List.set_cons_zero, List.set_cons_succ]
                      go_big_quiet_on)
                   | (go_big_quiet_op
                      first | refine ⟨_, fun _ _ => rfl, ?_⟩ | refine ⟨_, fun _ _ _ => rfl, ?_⟩ | refine ⟨_, fun _ _ _ _ => rfl, ?_⟩
                      go_big_quiet_on)
                   | (go_big_quiet_op
                      go_big_quiet_on)))
            refine wpQuiet_nil ?_
            intro w2 hb2
            go_wp2_with fail
            go_ret3
            exact ⟨HW1.out.trans (hb2.mono HW1.out.size), .inr ⟨_, _, a', c', pp, c3, by rw [HS4.out, if_neg h4], rfl, fun W _ h => (HB'.out W h).take k, HN'.out, fun W h => hpp W (HB'.out W h), hpn, hpl, by omega⟩⟩
        · have eq : (N : Int) % 2 = 1 := by omega
          have hst4 := HS3.out
          have hk20 : k ≤ 1048576 := by omega
          rw [if_neg h3] at hst4
          have HS4 := Lib.hid hst4
          have hnum := dnum_any a' l' c' 4611686018427387904 w1 (HB'.out w1 HBA.out) HN'.out hl' (by omega)
          have HNUM := Lib.hid hnum
          clear HS3 hst4 h3 hnum
          go_wp2_with fail
          refine HNUM.out.mono ?_
          clear HNUM
          unfold DNum
          rintro e w2 ⟨hw2, ⟨hd, a'', n'', c'', rfl⟩ | ⟨p, r2, a'', c'', hd, rfl, hb'', hn'', hl'', hc''⟩⟩
          · go_wp2_with fail
            go_ret3
            exact ⟨HW1.out.trans (hw2.mono HW1.out.size), .inl ⟨20, by rw [HS4.out, hd], rfl⟩⟩
          · have hst5 := HS4.out
            rw [hd] at hst5
            simp only at hst5
            have HS5 := Lib.hid hst5
            have hp62 := (rnum_cut_some l' _ p r2 hd).2.2.2.2
            have HW2 := Lib.hid (HW1.out.trans (hw2.mono HW1.out.size))
            have HB'' := Lib.hid hb''
            have HN'' := Lib.hid hn''
            have ew := add_small p k hp62 hk20
            clear HS4 hst5 hd hb'' hn'' hw2 hp62 hk20 ek hN62 eq d1 d2 h1 h2
            by_cases h5 : base.length < p + k
            · have d5 : (base.length : Int) < ((p + k : Nat) : Int) := Int.ofNat_lt.2 h5
              obtain ⟨pk, hpk⟩ : ∃ pk, pk = p + k := ⟨_, rfl⟩
              rw [← hpk] at ew d5
              clear hpk
              go_wp2_with fail
              go_ret3
              exact ⟨HW2.out, .inl ⟨70, by rw [HS5.out, if_pos h5], rfl⟩⟩
            · have d5 : ¬ (base.length : Int) < ((p + k : Nat) : Int) := fun h => h5 (Int.ofNat_lt.1 h)
              have h6 : p + k ≤ base.length := Nat.le_of_not_lt h5
              obtain ⟨pp, c3, hsl, hpp, hpn, hpl, hpc⟩ := slice_part a1 base p k c1 h6 HN1.out hl1 hc1
              have hpb := hpp
              obtain ⟨pk, hpk⟩ : ∃ pk, pk = p + k := ⟨_, rfl⟩
              rw [← hpk] at ew d5 hsl
              have H5 := Lib.hid h5
              obtain ⟨PP, hPP⟩ : ∃ PP, PP = (base.drop p).take k := ⟨_, rfl⟩
              rw [← hPP] at hsl hpb hpl
              have HPB := Lib.hid hpb
              have HPP := Lib.hid hPP
              clear hpp hpk h6 h5 hPP hpb
              go_wp2_with fail
              go_ret3
              exact ⟨HW2.out, .inr ⟨PP, r2, pp, c3, a'', c'', by rw [HS5.out, if_neg H5.out, HPP.out], rfl, fun W h _ => HPB.out W h, hpn, fun W h => HB''.out W (HB'.out W h), HN''.out, hl'', by omega⟩⟩
end Go.Proofs.Ytpdoiodgdhlecaa
