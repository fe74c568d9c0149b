/-
  A region that draws its order: operations that only read are taken first, the others come up in their one order. One walk, in an order that is given.
-/
import Derived.Test.YtpdoiodgdhlecaaBase
import Derived.Deep.QuietTactic
import Derived.BigQuiet
import Derived.OrdersHeld
namespace Go.Proofs.Ytpdoiodgdhlecaa
open Go.RowKit

section
variable {P : Program} {md : Region.Mode} {l : List Oper} {S : World → Prop} {Q : Exit → Act → World → Prop}

/-- An operation that answers a value, and calls nothing. -/
def plainOp : Op → Bool
  | .move _ | .assign _ | .pick .. | .load .. | .binOp .. | .unOp .. | .slice .. | .fieldAddr .. | .field .. | .indexAddr .. | .index .. | .extract .. | .convert .. | .build .. => true
  | _ => false
theorem value_only {s : Sem Value} {w w' : World} {n : Next} (h : (do pure (Next.value (← s)) : Sem Next).run P w = .ok n w') : ∃ v, n = .value v := by
  rw [Sem.run_bind] at h
  cases hr : s.run P w with
  | ok v w1 =>
    rw [hr] at h
    simp only [Result.andThen_ok, Sem.run_pure] at h
    injection h with h1 h2
    exact ⟨v, h1.symm⟩
  | halt x w1 => rw [hr] at h; simp [Result.andThen] at h
theorem value_of {α : Type} {s : Sem α} {f : α → Value} {w w' : World} {n : Next} (h : (do let b ← s; pure (Next.value (f b)) : Sem Next).run P w = .ok n w') : ∃ v, n = .value v := by
  rw [Sem.run_bind] at h
  cases hr : s.run P w with
  | ok v w1 =>
    rw [hr] at h
    simp only [Result.andThen_ok, Sem.run_pure] at h
    injection h with h1 h2
    exact ⟨_, h1.symm⟩
  | halt x w1 => rw [hr] at h; simp [Result.andThen] at h
theorem plain_value {o : Oper} {ρ : Operand → Value} (hp : plainOp o.op = true) {w w' : World} {n : Next} (h : (execOp ρ o).run P w = .ok n w') : ∃ v, n = .value v := by
  unfold execOp at h
  generalize o.op = op at *
  cases op <;> simp only [plainOp, Bool.false_eq_true] at hp <;> first
    | exact value_only h
    | (simp only [Sem.run_pure] at h; injection h with h1 h2; exact ⟨_, h1.symm⟩)
    | exact value_of h
theorem quiet_plain {o : Oper} {a : Act} {K : Act → Prop} (hp : plainOp o.op = true) (h : o.quiet P a S K) : ∃ v, (∀ w, S w → (execOp a.eval o).run P w = .ok (.value v) w) ∧ K (a.put o.dst v) := by
  obtain ⟨v, hv, hk⟩ := h
  refine ⟨v, fun w hw => ?_, hk⟩
  have h1 := hv w hw
  unfold Oper.quietAt at h1
  cases hr : (execOp a.eval o).run P w with
  | ok n w' =>
    obtain ⟨u, rfl⟩ := plain_value hp hr
    rw [hr] at h1
    simp only [Oper.quietUpon] at h1
    rw [h1.1, h1.2]
  | halt x w' =>
    rw [hr] at h1
    simp [Oper.quietUpon] at h1

def opsAt (l : List Oper) (is : List Nat) : List Oper := is.filterMap fun i => l[i]?
/-- The operations is, one behind the other, only read, and may be taken first. -/
def quietB (md : Region.Mode) (l : List Oper) : List Nat → (Array Bool → Bool) → Array Bool → Bool
  | [], k, listed => k listed
  | i :: r, k, listed => (Region.ready md l.toArray listed).contains i && Region.free md l.toArray listed i && ((l[i]?).map fun o => plainOp o.op).getD false && quietB md l r k (listed.setIfInBounds i true)
def schedB (md : Region.Mode) (l : List Oper) : List (List Nat × Nat) → List Nat → Array Bool → Bool
  | [], last, listed => quietB md l last (fun listed' => (Region.ready md l.toArray listed').isEmpty) listed
  | (seg, k) :: rest, last, listed => quietB md l seg (fun listed' => decide (Region.ready md l.toArray listed' = [k]) && schedB md l rest last (listed'.setIfInBounds k true)) listed

/-- What is asked of one operation that is carried out: behind it S again. -/
def wpDo (P : Program) (ops : Array Oper) (S : World → Prop) (Q : Exit → Act → World → Prop) (o : Oper) (K0 : Act → World → Prop) (a : Act) (w : World) : Prop :=
  ∀ K : Act → World → Prop, (∀ a' w', S w' → K0 a' w' → K a' w') → if Region.wanted o (yielded ops a.tmps) = true then o.wp P a w K Q else K (a.put o.dst undef) w
def wpSched (P : Program) (l : List Oper) (S : World → Prop) (Q : Exit → Act → World → Prop) : List (List Nat × Nat) → List Nat → Act → World → Prop
  | [], last, a, w => wpQuiet P l.toArray S (fun a' => Q .normal a' w) (opsAt l last) a
  | (seg, k) :: rest, last, a, w => wpQuiet P l.toArray S (fun a' => match l[k]? with | some o => wpDo P l.toArray S Q o (wpSched P l S Q rest last) a' w | none => False) (opsAt l seg) a

theorem wpSched_cons {seg : List Nat} {k : Nat} {rest : List (List Nat × Nat)} {last : List Nat} {a : Act} {w : World}
    (h : wpQuiet P l.toArray S (fun a' => match l[k]? with | some o => wpDo P l.toArray S Q o (wpSched P l S Q rest last) a' w | none => False) (opsAt l seg) a) : wpSched P l S Q ((seg, k) :: rest) last a w := h
theorem wpSched_nil {last : List Nat} {a : Act} {w : World} (h : wpQuiet P l.toArray S (fun a' => Q .normal a' w) (opsAt l last) a) : wpSched P l S Q [] last a w := h
theorem take_seg (hsel : Region.noSelect l.toArray = true) (hQ : ∀ c a d v w, Q (.panic c) (Act.put a d v) w → Q (.panic c) a w) {Qa : Act → Prop} {k : Array Bool → Bool} {fuel : Nat} {w : World} (hw : S w) : ∀ (seg : List Nat) (listed : Array Bool) (a : Act), quietB md l seg k listed = true → wpQuiet P l.toArray S Qa (opsAt l seg) a →
    (∀ listed' a', k listed' = true → Qa a' → wpAnyH P md l.toArray Q S fuel listed' a' w) → wpAnyH P md l.toArray Q S (seg.length + fuel) listed a w
  | [], listed, a, hB, h, hk => by
    rw [List.length_nil, Nat.zero_add]
    exact hk listed a hB h
  | i :: r, listed, a, hB, h, hk => by
    simp only [quietB, Bool.and_eq_true] at hB
    obtain ⟨⟨⟨h1, h2⟩, h3⟩, h4⟩ := hB
    cases ho : l[i]? with
    | none => rw [ho] at h3; simp at h3
    | some o =>
      rw [ho] at h3
      have hp : plainOp o.op = true := by simpa using h3
      have hoa : l.toArray[i]? = some o := by simpa using ho
      have e : opsAt l (i :: r) = o :: opsAt l r := by simp [opsAt, ho]
      rw [e] at h
      have hy : ∃ v, YieldsIf P l.toArray S o v a ∧ wpQuiet P l.toArray S Qa (opsAt l r) (a.put o.dst v) := by
        simp only [wpQuiet] at h
        by_cases hwt : Region.wanted o (yielded l.toArray a.tmps) = true
        · rw [if_pos hwt] at h
          obtain ⟨v, hv, hq⟩ := quiet_plain hp h
          exact ⟨v, .inl ⟨hwt, hv⟩, hq⟩
        · rw [if_neg hwt] at h
          exact ⟨undef, .inr ⟨by simpa using hwt, rfl⟩, h⟩
      obtain ⟨v, hy, hq⟩ := hy
      have := wpAnyH_first (Q := Q) (S := S) hoa (Region.noSelect_spec hsel) (fun c a' w' h' => hQ c a' _ _ w' h') (r.length + fuel) listed a w (Region.free_spec hoa h2) (by simpa using h1) hy hw
        (take_seg hsel hQ hw r _ _ h4 hq hk)
      rw [List.length_cons, Nat.add_right_comm]
      exact this

def schedCost : List (List Nat × Nat) → List Nat → Nat
  | [], last => last.length
  | (seg, _) :: rest, last => seg.length + (schedCost rest last + 1)
theorem sched_any (hsel : Region.noSelect l.toArray = true) (hQ : ∀ c a d v w, Q (.panic c) (Act.put a d v) w → Q (.panic c) a w) (last : List Nat) : ∀ (σ : List (List Nat × Nat)) (listed : Array Bool) (a : Act) (w : World), S w → schedB md l σ last listed = true → wpSched P l S Q σ last a w →
    wpAnyH P md l.toArray Q S (schedCost σ last) listed a w
  | [], listed, a, w, hw, hB, h => take_seg hsel hQ (fuel := 0) hw last listed a hB h fun listed' a' h1 h2 => ⟨by simpa using h1, h2⟩
  | (seg, k) :: rest, listed, a, w, hw, hB, h => by
    refine take_seg hsel hQ (fuel := schedCost rest last + 1) hw seg listed a hB h fun listed' a' h1 h2 => ?_
    simp only [Bool.and_eq_true, decide_eq_true_eq] at h1
    obtain ⟨hr, hB2⟩ := h1
    refine ⟨(fun h0 => by rw [hr] at h0; cases h0), fun i hi => ?_⟩
    rw [hr] at hi
    obtain rfl : i = k := by simpa using hi
    cases ho : l[i]? with
    | none => rw [ho] at h2; exact h2.elim
    | some o =>
      rw [ho] at h2
      have h3 := h2 (fun a'' w'' => S w'' ∧ wpAnyH P md l.toArray Q S (schedCost rest last) (listed'.setIfInBounds i true) a'' w'') (fun a'' w'' hs hk => ⟨hs, sched_any hsel hQ last rest _ a'' w'' hs hB2 hk⟩)
      unfold wpOp
      simp only [show l.toArray[i]? = some o by simpa using ho]
      by_cases hwt : Region.wanted o (yielded l.toArray a'.tmps) = true
      · rw [if_pos hwt] at h3 ⊢
        exact .inl h3
      · rw [if_neg hwt] at h3 ⊢
        exact h3
theorem wpAnyH_more {ops : Array Oper} : ∀ (fuel : Nat) (listed : Array Bool) (a : Act) (w : World), wpAnyH P md ops Q S fuel listed a w → wpAnyH P md ops Q S (fuel + 1) listed a w
  | 0, _, _, _, h => ⟨fun _ => h.2, fun i hi => by rw [h.1] at hi; cases hi⟩
  | fuel + 1, _, _, _, h => ⟨h.1, fun i hi => wpOp_mono (fun a' w' h' => ⟨h'.1, wpAnyH_more fuel _ a' w' h'.2⟩) (h.2 i hi)⟩
theorem wpAnyH_up {ops : Array Oper} {n : Nat} {listed : Array Bool} {a : Act} {w : World} (h : wpAnyH P md ops Q S n listed a w) : ∀ k, wpAnyH P md ops Q S (n + k) listed a w
  | 0 => h
  | k + 1 => wpAnyH_more _ _ _ _ (wpAnyH_up h k)

/-- The region, walked in the order that is given: σ: what is read, then what is carried out, and so on; last: what is read at the end. -/
theorem wp_region_sched {id : Nat} {a : Act} {w : World} (S : World → Prop) (σ : List (List Nat × Nat)) (last : List Nat) (hm : P.follows .mixedOrders = true) (hsel : Region.noSelect l.toArray = true)
    (hQ : ∀ c a d v w, Q (.panic c) (Act.put a d v) w → Q (.panic c) a w)
    (hB : schedB .any l σ last (Array.replicate l.length false) = true) (hcost : schedCost σ last ≤ l.length) (hS : S w.drew) (h : wpSched P l S Q σ last a w.drew) : (Code.region id l.toArray true).wp P Q a w := by
  refine wp_region_held (S := S) hm ?_
  have h1 := wpAnyH_up (sched_any (md := .any) hsel hQ last σ (Array.replicate l.length false) a w.drew hS hB h) (l.length - schedCost σ last)
  have e : schedCost σ last + (l.length - schedCost σ last) = l.toArray.size := by simp; omega
  rw [e] at h1
  simpa using h1

/-! A region whose order is the text's. -/
def plainsB (l : List Oper) : List (List Nat × Nat) → List Nat → Bool
  | [], last => (opsAt l last).all fun o => plainOp o.op
  | (seg, _) :: r, last => ((opsAt l seg).all fun o => plainOp o.op) && plainsB l r last
def flatOps (l : List Oper) : List (List Nat × Nat) → List Nat → List Oper
  | [], last => opsAt l last
  | (seg, k) :: r, last => opsAt l seg ++ ((l[k]?).toList ++ flatOps l r last)
theorem list_seg {ops : Array Oper} {Qa : Act → Prop} {rest : List Oper} {w : World} (hw : S w) : ∀ (seg : List Oper) (a : Act), (seg.all fun o => plainOp o.op) = true → wpQuiet P ops S Qa seg a → (∀ a', Qa a' → wpList P ops Q rest a' w) → wpList P ops Q (seg ++ rest) a w
  | [], a, _, h, hk => hk a h
  | o :: r, a, hp, h, hk => by
    rw [List.all_cons, Bool.and_eq_true] at hp
    simp only [wpQuiet] at h
    rw [List.cons_append, wpList]
    by_cases hwt : Region.wanted o (yielded ops a.tmps) = true
    · rw [if_pos hwt] at h ⊢
      obtain ⟨v, hv, hq⟩ := quiet_plain hp.1 h
      refine .inl ?_
      unfold Oper.wp
      rw [hv w hw]
      exact list_seg hw r _ hp.2 hq hk
    · rw [if_neg hwt] at h ⊢
      exact list_seg hw r _ hp.2 h hk
theorem list_any (last : List Nat) : ∀ (σ : List (List Nat × Nat)) (a : Act) (w : World), S w → plainsB l σ last = true → wpSched P l S Q σ last a w → wpList P l.toArray Q (flatOps l σ last) a w
  | [], a, w, hw, hp, h => by
    have := list_seg (Q := Q) (rest := []) hw (opsAt l last) a hp h (fun a' h' => h')
    rwa [List.append_nil] at this
  | (seg, k) :: r, a, w, hw, hp, h => by
    rw [plainsB, Bool.and_eq_true] at hp
    refine list_seg (Q := Q) hw (opsAt l seg) a hp.1 h (fun a' h' => ?_)
    cases ho : l[k]? with
    | none => rw [ho] at h'; exact h'.elim
    | some o =>
      rw [ho] at h'
      have h3 := h' (wpList P l.toArray Q (flatOps l r last)) (fun a'' w'' hs hk => list_any last r a'' w'' hs hp.2 hk)
      show wpList P l.toArray Q (o :: flatOps l r last) a' w
      rw [wpList]
      by_cases hwt : Region.wanted o (yielded l.toArray a'.tmps) = true
      · rw [if_pos hwt] at h3 ⊢
        exact .inl h3
      · rw [if_neg hwt] at h3 ⊢
        exact h3
theorem wp_region_lex {id : Nat} {a : Act} {w : World} (S : World → Prop) (σ : List (List Nat × Nat)) (last : List Nat) (hp : plainsB l σ last = true) (hf : flatOps l σ last = l) (hS : S w) (h : wpSched P l S Q σ last a w) : (Code.region id l.toArray false).wp P Q a w := by
  refine wp_region_lit ?_
  have := list_any last σ a w hS hp h
  rwa [hf] at this
end
end Go.Proofs.Ytpdoiodgdhlecaa
