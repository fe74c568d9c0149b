/-
  A region that draws its order: a head that reads and calls what makes memory of its own only, in whatever order; behind it a tail that waits for all of the head.
-/
import Derived.Test.YtkgclhkpncegnaaDoorBase
import Derived.Deep.QuietTactic
import Derived.BigQuiet
import Derived.StillTail
namespace Go.Proofs.YtkgclhkpncegnaaDoor
open Go.RowKit

section
variable {P : Program} {md : Region.Mode} {l : List Oper} {C : World → Prop}

/-- Does operation j wait for operation i, at first or at second hand? -/
def needsOp (md : Region.Mode) (l : List Oper) : Nat → Nat → Nat → Bool
  | 0, _, _ => false
  | f + 1, j, i => match l[j]? with
    | none => false
    | some o => o.after.toList.any fun e => Region.binds md e && (e.on == i || needsOp md l f e.on i)
/-- Of the first n operations each waits for earlier ones only, with no guard; each later one waits for all of them. -/
def tailB (md : Region.Mode) (l : List Oper) (n : Nat) : Bool :=
  decide (n ≤ l.length) && ((List.range n).all fun i => match l[i]? with
    | none => false
    | some o => o.guard.isNone && o.after.toList.all fun e => !Region.binds md e || decide (e.on < i)) &&
  (List.range l.length).all fun t => decide (t < n) || (List.range n).all fun i => needsOp md l l.length t i

theorem wpAny_more {ops : Array Oper} {Q : Exit → Act → World → Prop} : ∀ (fuel : Nat) (listed : Array Bool) (a : Act) (w : World), wpAny P md ops Q fuel listed a w → wpAny P md ops Q (fuel + 1) listed a w
  | 0, _, _, _, h => ⟨fun _ => h.2, fun i hi => by rw [h.1] at hi; cases hi⟩
  | fuel + 1, _, _, _, h => ⟨h.1, fun i hi => wpOp_mono (fun a' w' h' => wpAny_more fuel _ a' w' h') (h.2 i hi)⟩
theorem wpAny_more' {ops : Array Oper} {Q : Exit → Act → World → Prop} {g : Nat} {listed : Array Bool} {a : Act} {w : World} (h : wpAny P md ops Q g listed a w) : ∀ k, wpAny P md ops Q (k + g) listed a w
  | 0 => by rw [Nat.zero_add]; exact h
  | k + 1 => by rw [Nat.add_right_comm]; exact wpAny_more _ _ _ _ (wpAny_more' h k)

theorem getD_tf {x : Array Bool} {i : Nat} (h : x.getD i true = false) : x.getD i false = false := by
  rcases Nat.lt_or_ge i x.size with h' | h'
  · simp [h'] at h ⊢; exact h
  · simp [Array.getElem?_eq_none h'] at h
theorem getD_ft {x : Array Bool} {i : Nat} (hi : i < x.size) (h : x.getD i false = false) : x.getD i true = false := by
  simp [hi] at h ⊢; exact h

theorem needs_listed {listed : Array Bool} (hcl : ∀ j o, l[j]? = some o → listed.getD j false = true → ∀ e ∈ o.after, Region.binds md e = true → listed.getD e.on false = true) :
    ∀ (f j i : Nat) (o : Oper), l[j]? = some o → (∀ e ∈ o.after, Region.binds md e = true → listed.getD e.on false = true) → needsOp md l f j i = true → listed.getD i false = true
  | 0, _, _, _, _, _, h => by simp [needsOp] at h
  | f + 1, j, i, o, ho, hp, h => by
    simp only [needsOp, ho] at h
    obtain ⟨e, he, hb⟩ := List.any_eq_true.1 h
    simp only [Bool.and_eq_true, Bool.or_eq_true, beq_iff_eq] at hb
    have hl := hp e (by simpa using he) hb.1
    rcases hb.2 with h2 | h2
    · rw [← h2]; exact hl
    · cases f with
      | zero => simp [needsOp] at h2
      | succ f =>
        cases hoe : l[e.on]? with
        | none => simp [needsOp, hoe] at h2
        | some oe => exact needs_listed hcl (f + 1) e.on i oe hoe (hcl e.on oe hoe hl) h2

/-- The marks of the head alone, and of the whole region, while the tail has not begun. -/
structure Agree (md : Region.Mode) (l : List Oper) (n : Nat) (lh lw : Array Bool) : Prop where
  hs : lh.size = n
  ls : lw.size = l.length
  head : ∀ i, i < n → lw.getD i false = lh.getD i false
  tail : ∀ i, n ≤ i → lw.getD i false = false
  closed : ∀ j o, l[j]? = some o → lw.getD j false = true → ∀ e ∈ o.after, Region.binds md e = true → lw.getD e.on false = true

theorem Agree.on {n : Nat} {lh lw : Array Bool} (h : Agree md l n lh lw) (i : Nat) : lw.getD i false = lh.getD i false := by
  rcases Nat.lt_or_ge i n with h1 | h1
  · exact h.head i h1
  · rw [h.tail i h1]
    have : lh.size ≤ i := by rw [h.hs]; exact h1
    simp [Array.getElem?_eq_none this]

theorem Agree.step {n i : Nat} {lh lw : Array Bool} (h : Agree md l n lh lw) (hin : i < n) (hr : i ∈ Region.ready md l.toArray lw) : Agree md l n (lh.setIfInBounds i true) (lw.setIfInBounds i true) := by
  obtain ⟨_, o, ho, hall⟩ := mem_ready.1 hr
  have hil : i < lw.size := by
    have := (Array.getElem?_eq_some_iff.1 ho).1
    rw [h.ls]; simpa using this
  refine ⟨by simp [h.hs], by simp [h.ls], fun k hk => ?_, fun k hk => ?_, fun j oj hj hl e he hb => ?_⟩
  · by_cases hik : i = k
    · subst hik
      have h1 : i < lh.size := by rw [h.hs]; exact hin
      simp [hil, h1]
    · rw [getD_set_ne false hik, getD_set_ne false hik]; exact h.head k hk
  · rw [getD_set_ne false (by omega)]; exact h.tail k hk
  · by_cases hij : i = j
    · subst hij
      have : oj = o := by
        have h2 : l.toArray[i]? = some oj := by simpa using hj
        exact Option.some.inj (h2.symm.trans ho)
      subst this
      exact getD_set_true (hall e he hb)
    · rw [getD_set_ne false hij] at hl
      exact getD_set_true (h.closed j oj hj hl e he hb)

theorem all_listed {n : Nat} {lh : Array Bool} (hn : n ≤ l.length) (hs : lh.size = n) (hback : ∀ i o, i < n → l[i]? = some o → ∀ e ∈ o.after, Region.binds md e = true → e.on < i)
    (h : Region.ready md (l.take n).toArray lh = []) : ∀ i, i < n → lh.getD i false = true := by
  intro i
  induction i using Nat.strongRecOn with
  | _ i ih =>
    intro hi
    cases hv : lh.getD i false with
    | true => rfl
    | false =>
      have hil : i < l.length := by omega
      have ho : l[i]? = some l[i] := List.getElem?_eq_getElem hil
      have hr : i ∈ Region.ready md (l.take n).toArray lh := by
        refine mem_ready.2 ⟨getD_ft (by rw [hs]; exact hi) hv, l[i], by simp [hi, ho], fun e he hb => ?_⟩
        have := hback i _ hi ho e he hb
        exact ih e.on this (by omega)
      rw [h] at hr
      cases hr

theorem wpAny_of_tail {Q : Act → Prop} {Q' : Exit → Act → World → Prop} {n g : Nat} (hn : n ≤ l.length)
    (hback : ∀ i o, i < n → l[i]? = some o → o.guard = none ∧ ∀ e ∈ o.after, Region.binds md e = true → e.on < i)
    (htail : ∀ t i, n ≤ t → t < l.length → i < n → needsOp md l l.length t i = true)
    (hQ : ∀ lw a w, lw.size = l.length → (∀ i, lw.getD i false = decide (i < n)) → C w → Q a → wpAny P md l.toArray Q' g lw a w) :
    ∀ (fuel : Nat) (lh lw : Array Bool) (a : Act) (w : World), Agree md l n lh lw → C w → wpAnyQ P md (l.take n).toArray C Q fuel lh a → wpAny P md l.toArray Q' (fuel + g) lw a w := by
  have done : ∀ (lh lw : Array Bool) (a : Act) (w : World), Agree md l n lh lw → C w → Region.ready md (l.take n).toArray lh = [] → Q a → wpAny P md l.toArray Q' g lw a w := by
    intro lh lw a w hag hw hr hq
    have hall := all_listed (md := md) hn hag.hs (fun i o hi ho => (hback i o hi ho).2) hr
    refine hQ lw a w hag.ls (fun i => ?_) hw hq
    rcases Nat.lt_or_ge i n with h1 | h1
    · rw [hag.head i h1, hall i h1]; simp [h1]
    · rw [hag.tail i h1]; simp; omega
  intro fuel
  induction fuel with
  | zero =>
    intro lh lw a w hag hw h
    rw [Nat.zero_add]
    exact done lh lw a w hag hw h.1 h.2
  | succ fuel ih =>
    intro lh lw a w hag hw h
    cases hr : Region.ready md (l.take n).toArray lh with
    | nil => exact wpAny_more' (done lh lw a w hag hw hr (h.1 hr)) _
    | cons i0 rest =>
      have inHead : ∀ i, i ∈ Region.ready md l.toArray lw → i < n := by
        intro i hi
        rcases Nat.lt_or_ge i n with h1 | h1
        · exact h1
        · exfalso
          obtain ⟨_, o, ho, hall⟩ := mem_ready.1 hi
          have hlt : i < l.length := by simpa using (Array.getElem?_eq_some_iff.1 ho).1
          have h0 : i0 ∈ Region.ready md (l.take n).toArray lh := by rw [hr]; exact List.mem_cons_self
          obtain ⟨hu, o0, ho0, _⟩ := mem_ready.1 h0
          have hi0 : i0 < n := by
            have := (Array.getElem?_eq_some_iff.1 ho0).1
            simp at this; omega
          have hl := needs_listed hag.closed l.length i i0 o (by simpa using ho) hall (htail i i0 h1 hlt hi0)
          rw [hag.head i0 hi0, getD_tf hu] at hl
          cases hl
      have hne : Region.ready md l.toArray lw ≠ [] := by
        have h0 : i0 ∈ Region.ready md (l.take n).toArray lh := by rw [hr]; exact List.mem_cons_self
        obtain ⟨hu, o0, ho0, hall⟩ := mem_ready.1 h0
        have hi0 : i0 < n := by
          have := (Array.getElem?_eq_some_iff.1 ho0).1
          simp at this; omega
        have : i0 ∈ Region.ready md l.toArray lw := by
          refine mem_ready.2 ⟨getD_ft (by rw [hag.ls]; omega) (by rw [hag.head i0 hi0]; exact getD_tf hu), o0, by simpa [hi0] using ho0, fun e he hb => ?_⟩
          rw [hag.on]; exact hall e he hb
        intro h2; rw [h2] at this; cases this
      rw [Nat.add_right_comm]
      refine ⟨fun h2 => absurd h2 hne, fun i hi => ?_⟩
      have hin := inHead i hi
      obtain ⟨hu, o, ho, hall⟩ := mem_ready.1 hi
      have hol : l[i]? = some o := by simpa using ho
      have hoh : (l.take n).toArray[i]? = some o := by simp [hin, hol]
      have hih : i ∈ Region.ready md (l.take n).toArray lh := by
        refine mem_ready.2 ⟨getD_ft (by rw [hag.hs]; exact hin) (by rw [← hag.head i hin]; exact getD_tf hu), o, hoh, fun e he hb => ?_⟩
        rw [← hag.on]; exact hall e he hb
      have hq := h.2 i hih
      obtain ⟨hgd, _⟩ := hback i o hin hol
      have wantedAny : ∀ f, Region.wanted o f = true := fun f => by simp [Region.wanted, hgd]
      unfold qOp at hq
      simp only [hoh, wantedAny, if_true] at hq
      unfold wpOp
      simp only [ho, wantedAny, if_true]
      exact .inl (Oper.wp_of_quiet hw (fun a' w' hw' h' => ih _ _ a' w' (hag.step hin hi) hw' h') hq)

theorem tailB_spec {n : Nat} (h : tailB md l n = true) : n ≤ l.length ∧ (∀ i o, i < n → l[i]? = some o → o.guard = none ∧ ∀ e ∈ o.after, Region.binds md e = true → e.on < i) ∧
    (∀ t i, n ≤ t → t < l.length → i < n → needsOp md l l.length t i = true) := by
  unfold tailB at h
  simp only [Bool.and_eq_true, decide_eq_true_eq, List.all_eq_true, List.mem_range, Bool.or_eq_true] at h
  obtain ⟨⟨h1, h2⟩, h3⟩ := h
  refine ⟨h1, fun i o hi ho => ?_, fun t i ht htl hi => ?_⟩
  · have := h2 i hi
    simp only [ho, Bool.and_eq_true, Option.isNone_iff_eq_none, List.all_eq_true, Bool.or_eq_true, Bool.not_eq_true', decide_eq_true_eq] at this
    refine ⟨this.1, fun e he hb => ?_⟩
    rcases this.2 e (by simpa using he) with h4 | h4
    · rw [hb] at h4; cases h4
    · exact h4
  · rcases h3 t htl with h4 | h4
    · omega
    · exact h4 i hi

/-- The head in whatever order, quiet in a class of worlds; then the tail, in its one order. -/
theorem wp_region_quiet_tail {id : Nat} {Q : Exit → Act → World → Prop} {a : Act} {w : World} (n : Nat) (hm : P.follows .mixedOrders = true) (hT : tailB .any l n = true) (hB : Region.lexB .any (l.take n).toArray = true)
    (hS : Region.seqB .any l.toArray (l.length - n) n ((List.replicate n true ++ List.replicate (l.length - n) false).toArray) = true)
    (hC : C w.drew) (h : wpQuiet P (l.take n).toArray C (fun a' => ∀ w', C w' → wpList P l.toArray Q (l.drop n) a' w') (l.take n) a) : (Code.region id l.toArray true).wp P Q a w := by
  obtain ⟨hn, hback, htail⟩ := tailB_spec hT
  have htl : (l.take n).length = n := by simp; omega
  simp only [Region.lexB, Bool.and_eq_true] at hB
  refine wp_region_any hm ?_
  have hq := wpAnyQ_lex (C := C) (md := .any) hB.1 (l.take n) 0 (Array.replicate (l.take n).toArray.size false) a (by simp) (by simpa using hB.2) h
  have H := wpAny_of_tail (P := P) (md := .any) (C := C) (l := l) (n := n) (g := l.length - n) (Q := fun a' => ∀ w', C w' → wpList P l.toArray Q (l.drop n) a' w') (Q' := Q) hn hback htail (fun lw a' w' hs hv hw' hq' => by
    have he : lw = (List.replicate n true ++ List.replicate (l.length - n) false).toArray := by
      apply Array.ext
      · simp [hs]; omega
      · intro i h1 h2
        have := hv i
        rw [hs] at h1
        have h3 : lw.getD i false = lw[i] := by simp [Array.getD, hs, h1]
        rw [h3] at this
        rw [this]
        simp only [List.getElem_toArray]
        rcases Nat.lt_or_ge i n with h4 | h4
        · rw [List.getElem_append_left (by simpa using h4)]; simp [h4]
        · rw [List.getElem_append_right (by simpa using h4)]; simp; omega
    rw [he]
    have hdl : (l.drop n).length = l.length - n := by simp
    have := wpAny_of_seq (md := .any) (P := P) (ops := l.toArray) (Q' := Q) (l.drop n) n _ a' w' (fun j => by simp [List.getElem?_drop]) (by rw [hdl]; exact hS) (hq' w' hw')
    rwa [hdl] at this) n (Array.replicate n false) (Array.replicate l.length false) a w.drew
    ⟨by simp, by simp, fun i hi => by simp [Array.getD], fun i hi => by simp [Array.getD], fun j o hj hl => by simp [Array.getD] at hl⟩ hC (by simpa [htl] using hq)
  have e : n + (l.length - n) = l.toArray.size := by simp; omega
  rw [e] at H
  simpa using H
end
end Go.Proofs.YtkgclhkpncegnaaDoor
