/-
  The walks of code.Writer's methods.
-/
import Derived.Test.YtoaboehmjfnceaaCmp
import Derived.Test.YtoaboehmjfnceaaReadPost
import Derived.Laws.AppendOwnNone
namespace Go.Proofs.Ytoaboehmjfnceaa
open Go.RowKit

theorem ownsRow_of_block {w w' : World} {base : Nat} {e : TypeId} {size : Nat} {v : Value} {n : Nat} {xs : List Value} (h : w.ownsRow base e size v n xs) (hk : ∀ g cur, w.heap[g]? = some (.cells cur e (0, 0)) → base ≤ g → w'.heap[g]? = w.heap[g]?) : w'.ownsRow base e size v n xs := by
  refine ⟨h.1, ?_⟩
  rcases h.2 with h0 | ⟨g, cap, cur, h1, h2, h3, h4⟩
  · exact .inl h0
  · exact .inr ⟨g, cap, cur, h1, h2, by rw [hk g cur h3 h2]; exact h3, h4⟩
set_option maxRecDepth 100000 in
/-- append(x, y...), y's bytes lying anywhere, or nowhere. -/
theorem wpList_append_bytes {ops : Array Oper} {rest : List Oper} {o : Oper} {a : Act} {w : World} {Q : Exit → Act → World → Prop} (hgd : o.guard = none) (s x : Operand)
    (ho : o.op = .call { callee := .builtin .append, args := #[s, x], argTypes := #[36, 36] })
    (base : Nat) (v : Value) (bs : List UInt8) (hs : a.eval s = v) (hown : w.ownsRow base 5 1 v bs.length (bvs bs))
    (ad : Option Addr) (l : List UInt8) (c : Nat) (hx : a.eval x = .slice ad l.length c) (hB : BytesAt w ad l) (hn : ad = none → c = 0) (hl : bs.length + l.length ≤ 140737488355328) (hbase : base ≤ w.heap.size)
    (h : ∀ v' w', w'.ownsRow base 5 1 v' (bs ++ l).length (bvs (bs ++ l)) → w.grownBy w' v.ownBlock → wpList Try.prog ops Q rest (a.put o.dst v') w') : wpList Try.prog ops Q (o :: rest) a w := by
  obtain ⟨i0, hi, hz0, hz1, hz2⟩ := info_parts infoByte
  cases ad with
  | none =>
    have hl0 : l = [] := by
      cases l with
      | nil => rfl
      | cons d l => obtain ⟨_, _, h1, _⟩ := hB 0 (by simp); simp at h1
    subst hl0
    obtain rfl := hn rfl
    refine wpList_append_own_none hgd s x 36 ho base 5 i0 1 Try.underlying36 hi v _ _ hs hown hx (h v w (ownsRow_cast hown (by simp) (by simp)) (grownBy_below (Below.refl _ _) _))
  | some ad =>
    refine wpList_append_own _ hgd s x 36 ho base 5 i0 (.int .u8 0) 1 1 Try.underlying36 hi hz0 hz1 hz2 rfl (by decide) v _ _ hs hown ad l.length c (bvs l) hx (by rw [bvs_length, Nat.mul_one]) ?_ (bvs_oneCell l) (by unfold maxLen; omega) (by omega) hbase (fun v' w' h1 h2 _ => h v' w' (ownsRow_cast h1 (by simp) (by rw [bvs_append])) h2)
    intro j u hu
    have hj : j < l.length := by
      have := (List.getElem?_eq_some_iff.1 hu).1
      simpa [bvs_length] using this
    obtain ⟨b, off, ha, hc⟩ := hB j hj
    injection ha with ha
    rw [ha, add_plain, hc]
    rw [bvs_get l j hj] at hu
    exact hu

/-- The writer in block R has collected the bytes bs. -/
def Wrote (B R : Nat) (bs : List UInt8) (w : World) : Prop := B ≤ R ∧ ∃ v, w.heap[R]? = some (.cells #[v] 65 (0, 0)) ∧ w.ownsRow B 5 1 v bs.length (bvs bs)
theorem Wrote.lt {B R : Nat} {bs : List UInt8} {w : World} (h : Wrote B R bs w) : R < w.heap.size := by
  obtain ⟨_, v, h1, _⟩ := h
  exact lt_of_block h1
theorem Wrote.later {B R : Nat} {bs : List UInt8} {w w' : World} (h : Wrote B R bs w) (hb : Below w.heap.size w w') : Wrote B R bs w' := by
  obtain ⟨h0, v, h1, h2⟩ := h
  exact ⟨h0, v, by rw [hb.block _ (lt_of_block h1)]; exact h1, ownsRow_of_block h2 fun g cur hg _ => hb.block _ (lt_of_block hg)⟩

/-- What a writer's call leaves: all below B, and all blocks but its own that hold no bytes. -/
structure Kept (B R : Nat) (w w' : World) : Prop where
  below : Below B w w'
  other : ∀ k cs T, w.heap[k]? = some (.cells cs T (0, 0)) → k ≠ R → T ≠ 5 → w'.heap[k]? = some (.cells cs T (0, 0))
theorem Kept.refl (B R : Nat) (w : World) : Kept B R w w := ⟨Below.refl _ _, fun _ _ _ h _ _ => h⟩
theorem Kept.trans {B R : Nat} {w w1 w2 : World} (h : Kept B R w w1) (k : Kept B R w1 w2) : Kept B R w w2 := ⟨h.below.trans k.below, fun n cs T h1 h2 h3 => k.other n cs T (h.other n cs T h1 h2 h3) h2 h3⟩
theorem Kept.of {B R : Nat} {w w' : World} (hB : B ≤ w.heap.size) (h : Below w.heap.size w w') : Kept B R w w' := ⟨h.mono hB, fun n cs T h1 _ _ => by rw [h.block _ (lt_of_block h1)]; exact h1⟩

set_option maxRecDepth 100000 in
set_option maxHeartbeats 400000 in
theorem raw_any (B R : Nat) (bs : List UInt8) (ad : Option Addr) (l : List UInt8) (c : Nat) (w : World) (h : Wrote B R bs w) (hB : BytesAt w ad l) (hn : ad = none → c = 0) (hl : bs.length + l.length ≤ 140737488355328) :
    Calls Try.prog 43 #[.pointer (some ⟨R, 0, none⟩), .slice ad l.length c] w fun e w' => e = .returned (.tuple #[]) ∧ Wrote B R (bs ++ l) w' ∧ Kept B R w w' := by
  have hlt := h.lt
  obtain ⟨h0, v, h1, h2⟩ := h
  have c0 : w.cell? ⟨R, 0, none⟩ = some v := cell_of_block h1
  have hne : ∀ g cur, w.heap[g]? = some (.cells cur 5 (0, 0)) → g ≠ R := by
    intro g cur hg e
    subst e
    rw [h1] at hg
    injection hg with hg
    injection hg with _ ht
    revert ht
    decide
  have HNE := Lib.hid hne
  have H1 := Lib.hid h1
  obtain ⟨L, hL⟩ : ∃ L, L = bs ++ l := ⟨_, rfl⟩
  rw [← hL]
  have HL := Lib.hid hL
  clear h1 hne hL
  go_enter Try.func43, Try.ntmps43
  go_wp2_with (at_builtin; refine wpList_append_bytes rfl (.tmp 8) (.tmp 9) rfl B v bs rfl h2 ad l c rfl hB hn hl (by omega) ?_)
  intro v' w2 hown0 hgrow
  have hown : w2.ownsRow B 5 1 v' L.length (bvs L) := ownsRow_cast hown0 (by rw [HL.out]; simp) (by rw [HL.out])
  clear hown0
  obtain ⟨a', c', rfl, _, _, _, _⟩ := BytesAt.row hown
  have hbl : ∀ g, v.ownBlock = some g → B ≤ g ∧ g ≠ R := by
    intro g hg
    have h3 := h2.lt g hg
    rcases h2.2 with ⟨e0, _⟩ | ⟨g', cap, cur, e1, e2, e3, _⟩
    · rw [e0] at hg; simp [Value.ownBlock] at hg
    · rw [e1] at hg
      simp [Value.ownBlock] at hg
      subst hg
      exact ⟨e2, HNE.out _ _ e3⟩
  have hb8 : ∀ g, v.ownBlock = some g → ∃ cur, w.heap[g]? = some (.cells cur 5 (0, 0)) := by
    intro g hg
    rcases h2.2 with ⟨e0, _⟩ | ⟨g', cap, cur, e1, e2, e3, _⟩
    · rw [e0] at hg; simp [Value.ownBlock] at hg
    · rw [e1] at hg
      simp [Value.ownBlock] at hg
      subst hg
      exact ⟨_, e3⟩
  have hoth : ∀ (k : Nat) (cs : Array Value) (T : TypeId), w.heap[k]? = some (.cells cs T (0, 0)) → T ≠ 5 → w2.heap[k]? = some (.cells cs T (0, 0)) := by
    intro k cs T hk hT
    rw [hgrow.block k (lt_of_block hk) (fun e => ?_)]
    · exact hk
    · obtain ⟨cur, hc⟩ := hb8 k e.symm
      rw [hk] at hc
      injection hc with hc
      injection hc with _ ht
      exact hT ht
  have HOTH := Lib.hid hoth
  clear hoth hb8
  have hR2 : w2.heap[R]? = some (.cells #[v] 65 (0, 0)) := by
    rw [hgrow.block R hlt (fun e => (hbl R e.symm).2 rfl)]
    exact H1.out
  have c2 : w2.cell? ⟨R, 0, none⟩ = some v := cell_of_block hR2
  have f2 : w2.frozen? ⟨R, 0, none⟩ = false := free_of_block hR2
  have hb2 : Below B w w2 := ⟨hgrow.os, hgrow.tape, hgrow.output, hgrow.size, fun k hk => hgrow.block k (by omega) (fun e => by have := (hbl k e.symm).1; omega)⟩
  have HR2 := Lib.hid hR2
  have HG := Lib.hid hgrow
  clear hR2 hgrow c0
  go_wp2
  go_end0
  have h3 := heap_setCell_same w2 R 0 _ _ (.slice a' L.length c') HR2.out
  refine ⟨rfl, ⟨h0, _, h3, ownsRow_of_block hown fun g cur hg hgB => ?_⟩, hb2.setCell h0 _, fun k cs T hk hkR hT => ?_⟩
  case refine_2 =>
    rw [Below.heap_setCell w2 ⟨R, 0, none⟩ _ k hkR]
    exact HOTH.out k cs T hk hT
  have hgR : g ≠ R := by
    intro e
    subst e
    have := HR2.out
    rw [this] at hg
    injection hg with hg
    injection hg with _ ht
    revert ht
    decide
  exact Below.heap_setCell w2 ⟨R, 0, none⟩ _ g hgR

theorem bytes_none {w : World} {l : List UInt8} (h : BytesAt w none l) : l = [] := by
  cases l with
  | nil => rfl
  | cons d l => obtain ⟨_, _, h1, _⟩ := h 0 (by simp); simp at h1
def encNums (zs : List Int) : List UInt8 := zs.flatMap fun z => encNum (clampN z)
theorem encNums_take (zs : List Int) (k : Nat) (h : k < zs.length) : encNums (zs.take (k + 1)) = encNums (zs.take k) ++ encNum (clampN zs[k]) := by
  unfold encNums
  rw [List.take_succ_eq_append_getElem h, List.flatMap_append]
  congr 1
  simp only [List.flatMap_cons, List.flatMap_nil, List.append_nil]
theorem encNums_len (zs : List Int) : (encNums zs).length ≤ 9 * zs.length := by
  induction zs with
  | nil => simp [encNums]
  | cons z zs ih =>
    have := encNum_le9 (clampN_le z)
    simp only [encNums, List.flatMap_cons, List.length_append, List.length_cons] at ih ⊢
    omega
theorem encNums_take_len (zs : List Int) (k : Nat) (h : k ≤ zs.length) : (encNums (zs.take k)).length ≤ 9 * k := by
  have := encNums_len (zs.take k)
  rw [List.length_take, Nat.min_eq_left h] at this
  exact this
theorem Wrote.frame {B R : Nat} {bs : List UInt8} {w w' : World} (h : Wrote B R bs w) (hb : Below w.heap.size w w') : Wrote B R bs w' := h.later hb

set_option maxRecDepth 100000 in
set_option maxHeartbeats 1000000 in
theorem nums_any (B R g : Nat) (bs : List UInt8) (zs : List Int) (w : World) (h : Wrote B R bs w) (hg : w.heap[g]? = some (.cells (zs.map (Value.int .i64)).toArray 2 (0, 0))) (hgR : g ≠ R) (hB : B ≤ w.heap.size) (hl : bs.length + 9 * zs.length ≤ 140737488355000) :
    Calls Try.prog 45 #[.pointer (some ⟨R, 0, none⟩), .slice (some ⟨g, 0, none⟩) zs.length zs.length] w fun e w' => e = .returned (.tuple #[]) ∧ Wrote B R (bs ++ encNums zs) w' ∧ Kept B R w w' := by
  obtain ⟨n, hn⟩ : ∃ n, n = zs.length := ⟨_, rfl⟩
  rw [← hn]
  have h0 : Hid (Wrote B R (bs ++ encNums (zs.take 0)) w) := Lib.hid (by simpa [encNums] using h)
  have HN := Lib.hid hn
  have HG := Lib.hid hg
  have hl' : bs.length + 9 * n ≤ 140737488355000 := by omega
  clear hn h hg hl
  go_enter Try.func45, Try.ntmps45
  go_wp2_with fail
  go_loopw [5, 8] (fun _ s8 wr => ∃ k : Nat, k ≤ n ∧ s8 = .int .i64 (k : Int) ∧ Hid (Wrote B R (bs ++ encNums (zs.take k)) wr) ∧ Hid (Kept B R w wr)) (fun _ s8 _ => n - (intOf s8).toNat)
  case atStart => exact ⟨0, Nat.zero_le _, rfl, h0, Lib.hid (Kept.refl _ _ _)⟩
  case round =>
    obtain ⟨k, hk, rfl, hw, hkp⟩ := hrel
    clear h0
    by_cases hlt : k < n
    · have hkz : k < zs.length := by rw [← HN.out]; exact hlt
      obtain ⟨z, hz⟩ : ∃ z, z = zs[k] := ⟨_, rfl⟩
      have hgr := hkp.out.other g _ _ HG.out hgR (by decide)
      have hc : wr.cell? ⟨g, k, none⟩ = some (.int .i64 z) := by
        rw [cell_of_block hgr, hz]
        simp [List.getElem?_eq_getElem hkz]
      have hst := encNums_take zs k hkz
      rw [← hz] at hst
      have hlk := encNums_take_len zs k (by omega)
      have h9 := encNum_le9 (clampN_le z)
      have h1 := encNum_pos (clampN z)
      have HST := Lib.hid hst
      have hBr : B ≤ wr.heap.size := Nat.le_trans hB hkp.out.below.size
      clear hgr hz hst
      go_wp2_with fail
      refine (num_read none [] 0 z wr (BytesAt.nil _ _) (by simp)).mono ?_
      rw [List.nil_append]
      rintro e w1 ⟨a1, c1, rfl, hB1, hb1, _⟩
      go_wp2_with fail
      refine (raw_any B R (bs ++ encNums (zs.take k)) a1 (encNum (clampN z)) c1 w1 (hw.out.later hb1) hB1 (fun e => ?_) ?_).mono ?_
      · subst e
        have := bytes_none hB1
        rw [this] at h1
        simp at h1
      · rw [List.length_append]; omega
      rintro e w2 ⟨rfl, hw2, hk2⟩
      have HW2 := Lib.hid hw2
      have HK2 := Lib.hid (hkp.out.trans ((Kept.of hBr hb1).trans hk2))
      clear hw2 hk2 hb1 hB1 h1
      go_wp2_with fail
      go_roundw
      case rel => exact ⟨k + 1, by omega, by go_num, Lib.hid (by rw [HST.out, ← List.append_assoc]; exact HW2.out), HK2⟩
      case measure => simp [intOf]; omega
    · go_wp2
      go_end0
      have hkn : k = zs.length := by rw [← HN.out]; omega
      have := hw.out
      rw [hkn, List.take_of_length_le (Nat.le_refl _)] at this
      exact ⟨rfl, this, hkp.out⟩

set_option maxRecDepth 100000 in
set_option maxHeartbeats 400000 in
theorem wtext_any (B R : Nat) (bs : List UInt8) (s : ByteArray) (w : World) (h : Wrote B R bs w) (hB : B ≤ w.heap.size) (hl : bs.length + s.size ≤ 140737488355000) :
    Calls Try.prog 47 #[.pointer (some ⟨R, 0, none⟩), .string s] w fun e w' => e = .returned (.tuple #[]) ∧ Wrote B R (bs ++ encText s) w' ∧ Kept B R w w' := by
  have hE1 : 1 ≤ (encText s).length ∧ (encText s).length ≤ s.size + 9 := by
    unfold encText
    have h1 := encNum_pos s.size
    have h2 := encNum_le9 (n := s.size) (by omega)
    have h3 : s.data.toList.length = s.size := Array.length_toList
    rw [List.length_append, h3]
    omega
  have H := Lib.hid h
  clear h
  go_enter Try.func47, Try.ntmps47
  go_wp2_with fail
  refine (text_read none [] 0 s w (BytesAt.nil _ _) (by simp; omega)).mono ?_
  rw [List.nil_append]
  rintro e w1 ⟨a1, c1, rfl, hB1, hb1, _⟩
  go_wp2_with fail
  refine (raw_any B R bs a1 (encText s) c1 w1 (H.out.later hb1) hB1 (fun e => ?_) (by omega)).mono ?_
  · subst e
    have := bytes_none hB1
    rw [this] at hE1
    simp at hE1
  rintro e w2 ⟨rfl, hw2, hk2⟩
  go_wp2_with fail
  go_end0
  exact ⟨rfl, hw2, (Kept.of hB hb1).trans hk2⟩

set_option maxRecDepth 100000 in
set_option maxHeartbeats 400000 in
theorem wid_any (B R : Nat) (bs i : List UInt8) (w : World) (h : Wrote B R bs w) (hi : i.length = 32) (hB : B ≤ w.heap.size) (hl : bs.length ≤ 140737488355000) :
    Calls Try.prog 48 #[.pointer (some ⟨R, 0, none⟩), .agg (bvs i).toArray] w fun e w' => e = .returned (.tuple #[]) ∧ Wrote B R (bs ++ i) w' ∧ Kept B R w w' := by
  obtain ⟨X, hX⟩ : ∃ X, X = (bvs i).toArray := ⟨_, rfl⟩
  rw [← hX]
  obtain ⟨w1, hw1⟩ : ∃ w1, w1 = w.alloc (.cells X 30) := ⟨_, rfl⟩
  have hb1 : Below w.heap.size w w1 := by rw [hw1]; exact (Below.refl _ w).alloc (Nat.le_refl _) _
  have hB1 : BytesAt w1 (some ⟨w.heap.size, 0, none⟩) i := by rw [hw1, hX]; exact BytesAt.alloc_new _ _ _ _ (by simp [List.take_of_length_le, bvs_length])
  have hc := raw_any B R bs (some ⟨w.heap.size, 0, none⟩) i 32 w1 (h.later hb1) hB1 (fun e => by cases e) (by omega)
  rw [hi] at hc
  have HC := Lib.hid hc
  have HW := Lib.hid hw1
  clear hc hw1 hX h hi
  go_enter Try.func48, Try.ntmps48
  go_upto_region 1 with (fail)
  rw [← HW.out]
  go_wp2_with fail
  refine HC.out.mono ?_
  rintro e w2 ⟨rfl, hw2, hk2⟩
  go_wp2_with fail
  go_end0
  exact ⟨rfl, hw2, (Kept.of hB hb1).trans hk2⟩
end Go.Proofs.Ytoaboehmjfnceaa
