/-
  The walk of the reference's mul.
-/
import Derived.Test.YtkgclhkpncegnaaDoorMulMath
import Derived.Test.YtkgclhkpncegnaaDoorMulWords
import Derived.OwnWalk
import Derived.Laws.OwnMore
import Derived.Deep.QuietTactic
import Derived.BigQuiet
namespace Go.Proofs.YtkgclhkpncegnaaDoor
open Go.RowKit
set_option linter.unusedSimpArgs false
set_option linter.unusedVariables false

theorem own_block {w : World} {base n g : Nat} {e : TypeId} {xs : List Value} (h : w.ownsRow base e 1 (.slice (some ⟨g, 0, none⟩) n n) n xs) : w.heap[g]? = some (.cells xs.toArray e (0, 0)) := by
  rcases h.2 with ⟨h1, h2⟩ | ⟨g', cap, cur, hv, hbg, hg, hnc, hcm, hcs, htake⟩
  · simp at h1
  · simp only [Value.slice.injEq, Option.some.injEq, Addr.mk.injEq, and_true, true_and] at hv
    obtain ⟨rfl, rfl⟩ := hv
    rw [hg]
    have : cur.toList = xs := by rw [← htake, List.take_of_length_le]; rw [Array.length_toList]; omega
    rw [← this]
theorem us_set (l : List Nat) (i x : Nat) : (us l).toArray.setIfInBounds i (.int .u64 (x : Int)) = (us (l.set i x)).toArray := by
  rw [List.setIfInBounds_toArray]
  congr 1
  unfold us
  rw [List.map_set]
theorem us_cell {w : World} {G : Nat} {l : List Nat} (h : w.heap[G]? = some (.cells (us l).toArray 77 (0, 0))) (i : Nat) (hi : i < l.length) : w.cell? ⟨G, i, none⟩ = some (.int .u64 (l[i] : Int)) := by
  rw [cell_of_block h]
  simpa using us_get l i hi

/-- Where the inner loop stands. -/
structure MulIn (n i k c A V : Nat) (lb out : List Nat) : Prop where
  len : out.length = n
  words : ∀ x ∈ out, x < 65536
  val : valW out + 65536 ^ (i + k) * c = V + 65536 ^ i * (A * valW (lb.take k))
  last : ∀ h : i + lb.length < out.length, out[i + lb.length] = 0
  small : c < 65536
structure MulOut (n i : Nat) (la lb out : List Nat) : Prop where
  len : out.length = n
  words : ∀ x ∈ out, x < 65536
  val : valW out = valW (la.take i) * valW lb
theorem valW_zeros : ∀ n, valW (List.replicate n 0) = 0
  | 0 => rfl
  | n + 1 => by rw [List.replicate_succ, valW, valW_zeros n]

set_option maxRecDepth 100000 in
set_option maxHeartbeats 4000000 in
theorem mul_any (ga gb ca cb : Nat) (la lb : List Nat) (w : World) (ha : U64At w ga la) (hb : U64At w gb lb) (hla : ∀ x ∈ la, x < 65536) (hlb : ∀ x ∈ lb, x < 65536) (hal : la.length ≤ 1000) (hbl : lb.length ≤ 1000) (hca : la.length ≤ ca) (hcb : lb.length ≤ cb) (h4 : 0 < la.length) (h5 : 0 < lb.length) :
    Calls Tryd.prog 42 #[.slice (some ⟨ga, 0, none⟩) la.length ca, .slice (some ⟨gb, 0, none⟩) lb.length cb] w fun e w' => ∃ (g : Nat) (r : List Nat), e = .returned (.slice (some ⟨g, 0, none⟩) r.length r.length) ∧ U64At w' g r ∧ r.length = la.length + lb.length ∧ (∀ x ∈ r, x < 65536) ∧ valW r = valW la * valW lb ∧ Below w.heap.size w w' := by
  obtain ⟨i0, hi, hz0, hz1, hz2⟩ := info_parts infoU
  have HA := Lib.hid ha
  have HB := Lib.hid hb
  have HLA := Lib.hid hla
  have HLB := Lib.hid hlb
  clear ha hb hla hlb
  obtain ⟨n, hn⟩ : ∃ n, n = la.length + lb.length := ⟨_, rfl⟩
  have en : (la.length : Int) + (lb.length : Int) = (n : Int) := by omega
  have HN := Lib.hid hn
  have hn2 : n ≤ 2000 := by omega
  clear hn
  go_enter Tryd.func42, Tryd.ntmps42
  go_wp2_with (refine wpList_make_full _ rfl (.tmp 16) (.tmp 16) 86 rfl w.heap.size 77 i0 (.int .u64 0) 1 Tryd.underlying86 hi hz0 hz1 .i64 .i64 (n : Int) (n : Int) n rfl rfl rfl rfl (by rw [hz2]; omega) (by unfold maxLen; omega) (Nat.le_refl _) ?_)
  intro w1 hown hgrow
  obtain ⟨G, hG⟩ : ∃ G, G = w.heap.size := ⟨_, rfl⟩
  have hblk : w1.heap[G]? = some (.cells (us (List.replicate n 0)).toArray 77 (0, 0)) := by
    rw [hG]
    have h1 := own_block hown
    rw [toList_madeCells_one] at h1
    rw [h1]
    simp [us]
  have hb1 : Below w.heap.size w w1 := (Below.refl _ w).grown hgrow (Nat.le_refl _) (fun k hk => by simp at hk)
  rw [← hG]
  have HG := Lib.hid hG
  have HBLK := Lib.hid hblk
  have HB1 := Lib.hid hb1
  clear hG hblk hb1 hown hgrow
  go_wp2_with fail
  go_loopw [6, 7, 8, 9, 10, 11] (fun s6 _ _ _ _ _ wx => ∃ (i : Nat) (out : List Nat), i ≤ la.length ∧ s6 = .int .i64 (i : Int) ∧ wx.heap[G]? = some (.cells (us out).toArray 77 (0, 0)) ∧ Hid (MulOut n i la lb out) ∧ Below w.heap.size w wx) (fun s6 _ _ _ _ _ _ => la.length - (intOf s6).toNat)
  case atStart => exact ⟨0, List.replicate n 0, by omega, rfl, HBLK.out, Lib.hid ⟨by simp, fun x hx => by rw [(List.mem_replicate.1 hx).2]; omega, by rw [valW_zeros]; simp [valW]⟩, HB1.out⟩
  case round =>
    clear HBLK HB1
    obtain ⟨i, out, hil, rfl, hblk, HMO, hbr⟩ := hrel
    by_cases hlt : i < la.length
    · obtain ⟨A, hA⟩ : ∃ A, A = la[i] := ⟨_, rfl⟩
      have hA6 : A < 65536 := by rw [hA]; exact word_at HLA.out i hlt
      have HAA := Lib.hid hA
      obtain ⟨V, hV⟩ : ∃ V, V = valW (la.take i) * valW lb := ⟨_, rfl⟩
      have HV := Lib.hid hV
      have hless := mul_less HLA.out HLB.out i hil
      rw [← hV] at hless
      have HLESS := Lib.hid hless
      have hmi : MulIn n i 0 0 A V lb out := ⟨HMO.out.len, HMO.out.words, by rw [HMO.out.val, ← hV]; simp [valW], fun h => valW_zero h (by rw [HMO.out.val, ← hV]; exact hless), by omega⟩
      have HMI := Lib.hid hmi
      have HBLK := Lib.hid hblk
      have HBR := Lib.hid hbr
      clear hA hV hless hmi hblk hbr
      go_wp2_with fail
      go_loopw [7, 8, 9] (fun s7 s8 _ wx => ∃ (k c : Nat) (out' : List Nat), k ≤ lb.length ∧ s8 = .int .i64 (k : Int) ∧ s7 = .int .u64 (c : Int) ∧ wx.heap[G]? = some (.cells (us out').toArray 77 (0, 0)) ∧ Hid (MulIn n i k c A V lb out') ∧ Below w.heap.size w wx) (fun _ s8 _ _ => lb.length - (intOf s8).toNat)
      case atStart => exact ⟨0, 0, out, by omega, rfl, rfl, HBLK.out, HMI, HBR.out⟩
      case round =>
        clear HBLK HBR HMI
        obtain ⟨k, c, out', hkl, rfl, rfl, hblk, HMI, hbr⟩ := hrel
        have hc6 := HMI.out.small
        have hlen' := HMI.out.len
        by_cases hlt2 : k < lb.length
        · obtain ⟨B, hB⟩ : ∃ B, B = lb[k] := ⟨_, rfl⟩
          have hB6 : B < 65536 := by rw [hB]; exact word_at HLB.out k hlt2
          obtain ⟨q, hq⟩ : ∃ q, q = i + k := ⟨_, rfl⟩
          have hqn : q < n := by have := HN.out; omega
          have hqo : q < out'.length := by omega
          obtain ⟨o, ho⟩ : ∃ o, o = out'[q] := ⟨_, rfl⟩
          have ho6 : o < 65536 := by rw [ho]; exact word_at HMI.out.words q hqo
          obtain ⟨p, hp⟩ : ∃ p, p = A * B := ⟨_, rfl⟩
          have hp9 : p ≤ 4294836225 := by rw [hp]; exact word_mul hA6 hB6
          obtain ⟨x, hx⟩ : ∃ x, x = o + p + c := ⟨_, rfl⟩
          have e1 : (i : Int) + (k : Int) = (q : Int) := by omega
          have e2 : (A : Int) * (B : Int) = (p : Int) := by rw [hp]; simp
          have c1 : ∀ W, Below wr.heap.size wr W → W.cell? ⟨G, q, none⟩ = some (.int .u64 (o : Int)) := fun W h => by rw [ho]; exact cell_later h (us_cell hblk q hqo)
          have c2 : ∀ W, Below wr.heap.size wr W → W.cell? ⟨ga, i, none⟩ = some (.int .u64 (A : Int)) := fun W h => by rw [HAA.out]; exact cell_later h (cell_later hbr (HA.out i hlt))
          have c3 : ∀ W, Below wr.heap.size wr W → W.cell? ⟨gb, k, none⟩ = some (.int .u64 (B : Int)) := fun W h => by rw [hB]; exact cell_later h (cell_later hbr (HB.out k hlt2))
          have HC1 := Lib.hid c1
          have HC2 := Lib.hid c2
          have HC3 := Lib.hid c3
          have HBB := Lib.hid hB
          have HQ := Lib.hid hq
          have HO := Lib.hid ho
          have HP := Lib.hid hp
          have HX := Lib.hid hx
          have HBLK := Lib.hid hblk
          have HBR := Lib.hid hbr
          clear c1 c2 c3 hB hq ho hp hx hblk hbr
          go_upto_region 9 with (fail)
          refine wp_region_below' (w0 := wr) (B := wr.heap.size) (by kernel_rfl) (by kernel_rfl) (Below.refl _ _) ?_
          repeat (first
            | go_big_quiet_skip
            | (go_big_quiet_want
               first
                 | (refine quiet_load_cell 77 (.tmp 34) rfl ⟨G, q, none⟩ rfl (.int .u64 (o : Int)) _ HC1.out Tryd.underlying77 rfl ?_
                    simp only [Act.put, List.setIfInBounds_toArray, List.set_cons_zero, List.set_cons_succ]
                    go_big_quiet_on)
                 | (refine quiet_load_cell 77 (.tmp 38) rfl ⟨ga, i, none⟩ rfl (.int .u64 (A : Int)) _ HC2.out Tryd.underlying77 rfl ?_
                    simp only [Act.put, List.setIfInBounds_toArray, List.set_cons_zero, List.set_cons_succ]
                    go_big_quiet_on)
                 | (refine quiet_load_cell 77 (.tmp 42) rfl ⟨gb, k, none⟩ rfl (.int .u64 (B : Int)) _ HC3.out Tryd.underlying77 rfl ?_
                    simp only [Act.put, List.setIfInBounds_toArray, List.set_cons_zero, List.set_cons_succ]
                    go_big_quiet_on)
                 | (go_big_quiet_op
                    first | refine ⟨_, fun _ _ => rfl, ?_⟩ | refine ⟨_, fun _ _ _ => rfl, ?_⟩ | refine ⟨_, fun _ _ _ _ => rfl, ?_⟩
                    go_big_quiet_on)
                 | (go_big_quiet_op
                    go_big_quiet_on)))
          refine wpQuiet_nil ?_
          intro w5 hb5
          obtain ⟨r, hr⟩ : ∃ r, r = x % 65536 := ⟨_, rfl⟩
          obtain ⟨z, hz⟩ : ∃ z, z = x / 65536 := ⟨_, rfl⟩
          have hxe := HX.out
          have e3 : ((o : Int) + (p : Int) + (c : Int)) % 65536 = (r : Int) := by omega
          have e4 : ((o : Int) + (p : Int) + (c : Int)) / 65536 = (z : Int) := by omega
          have hr6 : r < 65536 := by omega
          have hz6 : z < 65536 := by omega
          have hblk5 : w5.heap[G]? = some (.cells (us out').toArray 77 (0, 0)) := by rw [hb5.block _ (lt_of_block HBLK.out)]; exact HBLK.out
          have c5 : w5.cell? ⟨G, q, none⟩ = some (.int .u64 (o : Int)) := HC1.out w5 hb5
          have f5 : w5.frozen? ⟨G, q, none⟩ = false := free_of_block hblk5
          have HR := Lib.hid hr
          have HZ := Lib.hid hz
          have HBLK5 := Lib.hid hblk5
          have HB5 := Lib.hid (HBR.out.trans (hb5.mono HBR.out.size))
          clear hxe hr hz hblk5 HC1 HC2 HC3
          go_wp2_with fail
          go_roundw
          case rel =>
            refine ⟨k + 1, z, out'.set q r, by omega, by go_num, by rw [e4], ?_, Lib.hid ⟨?_, ?_, ?_, ?_, hz6⟩, ?_⟩
            · rw [heap_setCell_same _ _ _ _ _ _ HBLK5.out]
              first | rw [us_set] | rw [e3, us_set]
            · rw [List.length_set]; exact hlen'
            · exact set_words HMI.out.words hr6
            · rw [HQ.out]
              refine mul_inner (A := A) (B := B) (o := o) (c := c) (x := x) hlt2 HBB.out.symm (by rw [← HQ.out]; exact hqo) ?_ (by rw [HX.out, HP.out]) HR.out HZ.out HMI.out.val
              have h1 := HO.out
              have h2 := HQ.out
              subst h2
              exact h1.symm
            · intro h
              have h1 : i + lb.length < out'.length := by rw [List.length_set] at h; exact h
              rw [List.getElem_set_ne (by have := HQ.out; omega)]
              exact HMI.out.last h1
            · exact below_grownBy (Nat.le_refl _) HB5.out (grownBy_setCell _ _ _ _) (by rw [HG.out]; exact Nat.le_refl _)
          case measure => simp [intOf]; omega
        · obtain rfl : k = lb.length := by omega
          have hval := HMI.out.val
          rw [List.take_of_length_le (Nat.le_refl _), HV.out, HAA.out, mul_outer hlt rfl] at hval
          obtain ⟨T, hT⟩ : ∃ T, T = valW (la.take (i + 1)) * valW lb := ⟨_, rfl⟩
          rw [← hT] at hval
          obtain ⟨q, hq⟩ : ∃ q, q = i + lb.length := ⟨_, rfl⟩
          have hqo : q < out'.length := by have := HN.out; omega
          have hz0' : out'[q] = 0 := by subst hq; exact HMI.out.last hqo
          rw [← hq] at hval
          have hmo := HMI.out.words
          have e1 : (i : Int) + (lb.length : Int) = (q : Int) := by omega
          have HVL := Lib.hid hval
          have HQ := Lib.hid hq
          have HZ0 := Lib.hid hz0'
          have HT := Lib.hid hT
          have HWD := Lib.hid hmo
          have HBLK := Lib.hid hblk
          have HBR := Lib.hid hbr
          clear hval hq hz0' hT hmo hblk hbr hkl hlt2
          go_wp2_with fail
          go_loopw [7, 10, 11] (fun s7 s10 _ wx => ∃ (c : Nat) (k2 : Int) (out2 : List Nat), s7 = .int .u64 (c : Int) ∧ s10 = .int .i64 k2 ∧ c < 65536 ∧ -10000 < k2 ∧ k2 < 10000 ∧ wx.heap[G]? = some (.cells (us out2).toArray 77 (0, 0)) ∧ Hid (out2.length = n ∧ (∀ y ∈ out2, y < 65536) ∧ ((c = 0 ∧ valW out2 = T) ∨ (k2 = (q : Int) ∧ valW out2 + 65536 ^ q * c = T ∧ ∀ h : q < out2.length, out2[q] = 0))) ∧ Below w.heap.size w wx) (fun s7 _ _ _ => (intOf s7).toNat)
          case atStart => exact ⟨c, (q : Int), out', rfl, rfl, hc6, by omega, by omega, HBLK.out, Lib.hid ⟨hlen', HWD.out, Or.inr ⟨rfl, HVL.out, fun _ => HZ0.out⟩⟩, HBR.out⟩
          case round =>
            clear HBLK HBR
            obtain ⟨c2, k2, out2, rfl, rfl, hc2, hk2a, hk2b, hblk, HIV, hbr⟩ := hrel
            by_cases hc0 : c2 = 0
            · obtain ⟨hl2, hw2, hv2⟩ := HIV.out
              have hval2 : valW out2 = T := by
                rcases hv2 with ⟨_, h⟩ | ⟨_, h, _⟩
                · exact h
                · rw [hc0] at h; simpa using h
              subst hc0
              have HL2 := Lib.hid hl2
              have HW2 := Lib.hid hw2
              have HV2 := Lib.hid hval2
              have HBLK := Lib.hid hblk
              have HBR := Lib.hid hbr
              clear hl2 hw2 hv2 hval2 hblk hbr HIV
              go_wp2_with fail
              go_roundw
              case rel => exact ⟨i + 1, out2, by omega, by go_num, HBLK.out, Lib.hid ⟨HL2.out, HW2.out, by rw [HV2.out, HT.out]⟩, HBR.out⟩
              case measure => simp [intOf]; omega
            · obtain ⟨hl2, hw2, hv2⟩ := HIV.out
              obtain ⟨hk, hval2, hz2⟩ : k2 = (q : Int) ∧ valW out2 + 65536 ^ q * c2 = T ∧ ∀ h : q < out2.length, out2[q] = 0 := by
                rcases hv2 with ⟨h, _⟩ | h
                · exact absurd h hc0
                · exact h
              subst hk
              have hq2 : q < out2.length := by omega
              have e3 : (c2 : Int) % 65536 = (c2 : Int) := by omega
              have e4 : (c2 : Int) / 65536 = 0 := by omega
              have k0 : wr.cell? ⟨G, q, none⟩ = some (.int .u64 0) := by have h1 := us_cell hblk q hq2; rw [hz2 hq2] at h1; exact h1
              have f0 : wr.frozen? ⟨G, q, none⟩ = false := free_of_block hblk
              have d1 : (0 : Int) < (c2 : Int) := by omega
              have hset := mul_last hq2 (hz2 hq2) hval2
              have HST := Lib.hid hset
              have HL2 := Lib.hid hl2
              have HW2 := Lib.hid hw2
              have HBLK := Lib.hid hblk
              have HBR := Lib.hid hbr
              clear hl2 hw2 hv2 hval2 hz2 hblk hbr HIV hset
              go_wp2_with fail
              go_roundw
              case rel =>
                refine ⟨0, (q : Int) + 1, out2.set q c2, rfl, by first | rfl | go_num, by omega, by omega, by omega, ?_, Lib.hid ⟨?_, ?_, Or.inl ⟨rfl, HST.out⟩⟩, ?_⟩
                · rw [heap_setCell_same _ _ _ _ _ _ HBLK.out, us_set]
                · rw [List.length_set]; exact HL2.out
                · exact set_words HW2.out hc2
                · exact below_grownBy (Nat.le_refl _) HBR.out (grownBy_setCell _ _ _ _) (by rw [HG.out]; exact Nat.le_refl _)
              case measure => simp [intOf]; omega
    · obtain rfl : i = la.length := by omega
      have hval := HMO.out.val
      rw [List.take_of_length_le (Nat.le_refl _)] at hval
      have HVL := Lib.hid hval
      have HBLK := Lib.hid hblk
      have HBR := Lib.hid hbr
      have hlen := HMO.out.len
      have HLEN := Lib.hid hlen
      clear hval hblk hbr hlen hil
      go_wp2_with fail
      go_ret
      refine ⟨G, out, by rw [HLEN.out]; rfl, fun i hi => us_cell HBLK.out i hi, by rw [HLEN.out, HN.out], HMO.out.words, HVL.out, HBR.out⟩
end Go.Proofs.YtkgclhkpncegnaaDoor
