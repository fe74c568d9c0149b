/-
  The walk of delta's Apply.
-/
import Derived.Test.YtpdoiodgdhlecaaDStep
import Derived.Laws.AppendOwn
import Derived.Laws.AppendOwnNone
namespace Go.Proofs.Ytpdoiodgdhlecaa
open Go.RowKit
set_option linter.unusedSimpArgs false
set_option linter.unusedVariables false

theorem wpList_append_bytes {w : World} {ops : Array Oper} {rest : List Oper} {o : Oper} {a : Act} {Q : Exit → Act → World → Prop} (hgd : o.guard = none) (s x : Operand)
    (ho : o.op = .call { callee := .builtin .append, args := #[s, x], argTypes := #[22, 22] })
    (base : Nat) (v : Value) (n : Nat) (xs : List Value) (hs : a.eval s = v) (hown : w.ownsRow base 5 1 v n xs)
    (ax : Option Addr) (l : List UInt8) (c : Nat) (hx : a.eval x = .slice ax l.length c) (hb : BytesAt w ax l) (hcap : ax = none → c = 0)
    (h63 : n + l.length ≤ 140737488355328) (hbase : base ≤ w.heap.size)
    (h : ∀ v' w', w'.ownsRow base 5 1 v' (n + l.length) (xs ++ bvs l) → w.grownBy w' v.ownBlock → wpList Try.prog ops Q rest (a.put o.dst v') w') : wpList Try.prog ops Q (o :: rest) a w := by
  obtain ⟨i0, hi, hz0, hz1, hz2⟩ := info_parts infoByte
  cases ax with
  | none =>
    obtain rfl := hb.none_nil
    obtain rfl := hcap rfl
    refine wpList_append_own_none hgd s x 22 ho base 5 i0 1 Try.underlying22 hi v n xs hs hown hx ?_
    exact h v w (ownsRow_cast hown (by simp) (by simp [bvs])) (World.grownBy.refl w _)
  | some ad =>
    refine wpList_append_own _ hgd s x 22 ho base 5 i0 (.int .u8 0) 1 1 Try.underlying22 hi hz0 hz1 hz2 rfl (by decide) v n xs hs hown ad l.length c (bvs l) hx (by rw [bvs_length, Nat.mul_one]) ?_ (bvs_oneCell l) (by unfold maxLen; omega) (by omega) hbase (fun v' w' h1 h2 _ => h v' w' h1 h2)
    intro j u hj
    have hj' : j < l.length := by
      have := (List.getElem?_eq_some_iff.1 hj).1
      rwa [bvs_length] at this
    obtain ⟨b, off, h1, h2⟩ := hb j hj'
    obtain rfl := Option.some.inj h1
    rw [add_plain, h2]
    rw [bvs_get l j hj'] at hj
    exact hj
/-- The length of a slice. -/
def lenOf : Value → Nat
  | .slice _ n _ => n
  | _ => 0
theorem stepD_err {base D : List UInt8} {o : Nat} {er : Int} (h : stepD base D o = .inl er) : er = 20 ∨ er = 70 := by
  unfold stepD at h
  repeat' split at h
  all_goals simp at h
  all_goals simp [← h]
theorem applyD_none {base D : List UInt8} (h : rnum D 1048576 = none) : applyD base D = (20, []) := by unfold applyD; rw [h]
def endD (t : Nat) : Int ⊕ List UInt8 → Int × List UInt8
  | .inl e => (e, [])
  | .inr out => if out.length = t then (0, out) else (20, [])
theorem applyD_some {base D l : List UInt8} {t : Nat} (h : rnum D 1048576 = some (t, l)) : applyD base D = endD t (stepsD base (l.length + 1) [] l) := by
  unfold applyD
  rw [h]
  simp only
  cases stepsD base (l.length + 1) [] l <;> rfl
theorem ownsRow_below {w w' : World} {base n : Nat} {e : TypeId} {v : Value} {xs : List Value} (h : w.ownsRow base e 1 v n xs) (hb : Below w.heap.size w w') : w'.ownsRow base e 1 v n xs := by
  rcases h with ⟨h0, h1 | ⟨g, cap, cur, hv, hbg, hg, hrest⟩⟩
  · exact ⟨h0, .inl h1⟩
  · exact ⟨h0, .inr ⟨g, cap, cur, hv, hbg, (hb.block g (lt_of_block hg)).trans hg, hrest⟩⟩

/-- What Apply comes to. -/
def DApplied (base D : List UInt8) (w : World) (e : Ending) (w' : World) : Prop :=
  Below w.heap.size w w' ∧ (applyD base D).2.length ≤ 1048576 ∧ ∃ a2 c2, e = .returned (.tuple #[.slice a2 (applyD base D).2.length c2, .int .i64 (applyD base D).1]) ∧ BytesAt w' a2 (applyD base D).2 ∧ (applyD base D).2.length ≤ c2 ∧ c2 ≤ 9223372036854775807
theorem DApplied.err {base D : List UInt8} {w w' : World} {er : Int} (hb : Below w.heap.size w w') (h : applyD base D = (er, [])) : DApplied base D w (.returned (.tuple #[.slice none 0 0, .int .i64 er])) w' := by
  unfold DApplied
  rw [h]
  exact ⟨hb, by simp, none, 0, rfl, BytesAt.nil _ _, by simp, by omega⟩

set_option maxRecDepth 100000 in
set_option maxHeartbeats 2000000 in
theorem apply_any (a1 : Option Addr) (base : List UInt8) (c1 : Nat) (a : Option Addr) (D : List UInt8) (cap : Nat) (w : World) (hb1 : BytesAt w a1 base) (hn1 : a1 = none → c1 = 0) (hl1 : base.length ≤ c1) (hc1 : c1 ≤ 9223372036854775807) (hb : BytesAt w a D) (hn : a = none → cap = 0) (hl : D.length ≤ cap) (hc : cap ≤ 9223372036854775807) :
    Calls Try.prog 10 #[.slice a1 base.length c1, .slice a D.length cap] w (DApplied base D w) := by
  have hnum := dnum_any a D cap 1048576 w hb hn hl hc
  have HB1 := Lib.hid hb1
  have HN1 := Lib.hid hn1
  have HBD := Lib.hid hb
  have HNUM := Lib.hid hnum
  clear hb1 hn1 hb hn hnum
  go_enter Try.func10, Try.ntmps10
  go_wp2_with fail
  refine HNUM.out.mono ?_
  clear HNUM
  unfold DNum
  rintro e w1 ⟨hw1, ⟨hd, a', n', c', rfl⟩ | ⟨t, l', a', c', hd, rfl, hb', hn', hl', hc'⟩⟩
  · go_wp2_with fail
    go_ret2
    exact .err hw1 (applyD_none hd)
  · obtain ⟨R, hR⟩ : ∃ R, stepsD base (l'.length + 1) [] l' = R := ⟨_, rfl⟩
    have hap : applyD base D = endD t R := by rw [← hR]; exact applyD_some hd
    have hst : Stands base R [] l' := by rw [← hR]; exact Stands.start _ _
    have ht := (rnum_cut_some D _ t l' hd).2.2.2.2
    have hown0 : w1.ownsRow w1.heap.size 5 1 (.slice none 0 0) 0 (bvs []) := World.ownsRow_nil _ _ _ _
    have HW1 := Lib.hid hw1
    have HAP := Lib.hid hap
    have HST := Lib.hid hst
    have HOW := Lib.hid hown0
    have HB' := Lib.hid (hb' w HBD.out)
    have HN' := Lib.hid hn'
    clear hw1 hap hst hown0 hb' hn' hd hR
    go_wp2_with fail
    go_loopw [7, 9] (fun s7 s9 wx => ∃ (out D' : List UInt8) (a3 : Option Addr) (c3 : Nat), s7 = .slice a3 D'.length c3 ∧ BytesAt w a3 D' ∧ (a3 = none → c3 = 0) ∧ D'.length ≤ c3 ∧ c3 ≤ cap ∧ wx.ownsRow w1.heap.size 5 1 s9 out.length (bvs out) ∧ out.length ≤ 1048576 ∧ Stands base R out D' ∧ Below w1.heap.size w1 wx) (fun s7 _ _ => lenOf s7)
    case atStart => exact ⟨[], l', a', c', rfl, HB'.out, HN'.out, hl', hc', HOW.out, by simp, HST.out, Below.refl _ _⟩
    case round =>
      clear HB' HN' hl' hc' HOW HST
      obtain ⟨out, D', a3, c3, rfl, hb3, hn3, hl3, hc3, hown, hout, hst, hbel⟩ := hrel
      obtain ⟨a2, c2, rfl, hB2, -, hl2, hc2⟩ := BytesAt.row hown
      have hwx : Below w.heap.size w wr := HW1.out.trans (hbel.mono HW1.out.size)
      by_cases hD0 : D' = []
      · subst hD0
        have hR := hst.end
        have hap2 := HAP.out
        rw [hR] at hap2
        simp only [endD] at hap2
        have HAP2 := Lib.hid hap2
        have HB2 := Lib.hid hB2
        have HWX := Lib.hid hwx
        clear hb3 hn3 hl3 hown hst hbel hR hap2 hB2 hwx HAP
        by_cases heq : out.length = t
        · have e1 : ((out.length : Int) != (t : Int)) = false := by simp [heq]
          go_wp2_with fail
          go_ret2
          unfold DApplied
          rw [HAP2.out, if_pos heq]
          exact ⟨HWX.out, hout, a2, c2, rfl, HB2.out, hl2, hc2⟩
        · have e1 : ((out.length : Int) != (t : Int)) = true := by simp; omega
          go_wp2_with fail
          go_ret2
          exact .err HWX.out (by rw [HAP2.out, if_neg heq])
      · have hpos : 0 < D'.length := by cases D' with | nil => exact absurd rfl hD0 | cons _ _ => simp
        have hstep := dstep_any a1 base c1 a3 D' c3 out.length wr (HB1.out.later hwx) HN1.out hl1 hc1 (hb3.later hwx) hn3 hl3 (by omega) hout
        have HSTEP := Lib.hid hstep
        have HD0 := Lib.hid hD0
        have HB3 := Lib.hid hb3
        have HOW := Lib.hid hown
        have HWX := Lib.hid hwx
        have HST := Lib.hid hst
        have HBEL := Lib.hid hbel
        clear hstep hD0 hb3 hown hwx hst hbel hn3 hB2
        go_wp2_with fail
        refine HSTEP.out.mono ?_
        clear HSTEP
        unfold DStep
        rintro e w3 ⟨hw3, ⟨er, hse, rfl⟩ | ⟨p, r, a4, c4, a5, c5, hse, rfl, hp, hn4, hr, hn5, hl5, hc5⟩⟩
        · have hR := HST.out.err HD0.out hse
          have hap2 := HAP.out
          rw [hR] at hap2
          simp only [endD] at hap2
          have HAP2 := Lib.hid hap2
          have HW3 := Lib.hid (HWX.out.trans (hw3.mono HWX.out.size))
          have her := stepD_err hse
          clear hR hap2 hse HAP HST hw3
          rcases her with rfl | rfl
          · go_wp2_with fail
            go_ret2
            exact .err HW3.out HAP2.out
          · go_wp2_with fail
            go_ret2
            exact .err HW3.out HAP2.out
        · have hst2 := HST.out.go HD0.out hse
          have hmost := stepD_most hse
          have hless := stepD_less hse
          have hpw := hp w3 (HB1.out.later (HWX.out.trans (hw3.mono HWX.out.size))) (HB3.out.later (HWX.out.trans (hw3.mono HWX.out.size)))
          have hrw := hr w HB3.out
          have hown3 := ownsRow_below HOW.out hw3
          have hbel3 := HBEL.out.trans (hw3.mono HBEL.out.size)
          have HST2 := Lib.hid hst2
          have HPW := Lib.hid hpw
          have HRW := Lib.hid hrw
          have HOW3 := Lib.hid hown3
          have HBEL3 := Lib.hid hbel3
          have HN4 := Lib.hid hn4
          have HN5 := Lib.hid hn5
          clear hse hst2 hpw hrw hown3 hbel3 hp hr hw3 hn4 hn5 HAP HST HOW HBEL
          go_wp2_with (at_builtin; refine wpList_append_bytes rfl (.tmp 36) (.tmp 37) rfl w1.heap.size (.slice a2 out.length c2) out.length (bvs out) rfl HOW3.out a4 p c4 rfl HPW.out HN4.out (by omega) HBEL3.out.size ?_; intro v6 w9 hv6 hg9)
          go_roundw
          case rel => exact ⟨out ++ p, r, a5, c5, rfl, HRW.out, HN5.out, hl5, by omega, ownsRow_cast hv6 (by simp) (by rw [bvs_append]), by rw [List.length_append]; omega, HST2.out, HBEL3.out.grown hg9 HBEL3.out.size (fun k hk => (HOW3.out.lt k hk).1)⟩
          case measure => simp [lenOf]; omega
end Go.Proofs.Ytpdoiodgdhlecaa
