/-
  A region that draws its order, walked along a plan: where two operations that are carried out may come up, the plan forks.
-/
import Derived.Test.YtkgclhkpncegnaaDoorPair
namespace Go.Proofs.YtkgclhkpncegnaaDoor
open Go.RowKit

/-- What is read, then what is carried out; where two may come up, what follows each. -/
inductive Plan where
  | done (seg : List Nat)
  | one (seg : List Nat) (k : Nat) (p : Plan)
  | two (seg : List Nat) (j : Nat) (pj : Plan) (k : Nat) (pk : Plan)

def planCost : Plan → Nat
  | .done seg => seg.length
  | .one seg _ p => seg.length + (planCost p + 1)
  | .two seg _ pj _ _ => seg.length + (planCost pj + 1)

section
variable {P : Program} {md : Region.Mode} {l : List Oper} {S : World → Prop} {Q : Exit → Act → World → Prop}

def planB (md : Region.Mode) (l : List Oper) : Plan → Array Bool → Bool
  | .done seg, listed => quietB md l seg (fun listed' => (Region.ready md l.toArray listed').isEmpty) listed
  | .one seg k p, listed => quietB md l seg (fun listed' => decide (Region.ready md l.toArray listed' = [k]) && planB md l p (listed'.setIfInBounds k true)) listed
  | .two seg j pj k pk, listed => quietB md l seg (fun listed' => decide (Region.ready md l.toArray listed' = [j, k]) && (decide (planCost pk = planCost pj) && (planB md l pj (listed'.setIfInBounds j true) && planB md l pk (listed'.setIfInBounds k true)))) listed
def wpPlan (P : Program) (l : List Oper) (S : World → Prop) (Q : Exit → Act → World → Prop) : Plan → Act → World → Prop
  | .done seg, a, w => wpQuiet P l.toArray S (fun a' => Q .normal a' w) (opsAt l seg) a
  | .one seg k p, a, w => wpQuiet P l.toArray S (fun a' => match l[k]? with | some o => wpDo P l.toArray S Q o (wpPlan P l S Q p) a' w | none => False) (opsAt l seg) a
  | .two seg j pj k pk, a, w => wpQuiet P l.toArray S (fun a' => match l[j]?, l[k]? with
      | some oj, some ok => wpDo P l.toArray S Q oj (wpPlan P l S Q pj) a' w ∧ wpDo P l.toArray S Q ok (wpPlan P l S Q pk) a' w
      | _, _ => False) (opsAt l seg) a
theorem wpPlan_done {seg : List Nat} {a : Act} {w : World} (h : wpQuiet P l.toArray S (fun a' => Q .normal a' w) (opsAt l seg) a) : wpPlan P l S Q (.done seg) a w := h
theorem wpPlan_one {seg : List Nat} {k : Nat} {p : Plan} {a : Act} {w : World}
    (h : wpQuiet P l.toArray S (fun a' => match l[k]? with | some o => wpDo P l.toArray S Q o (wpPlan P l S Q p) a' w | none => False) (opsAt l seg) a) : wpPlan P l S Q (.one seg k p) a w := h
theorem wpPlan_two {seg : List Nat} {j k : Nat} {pj pk : Plan} {a : Act} {w : World}
    (h : wpQuiet P l.toArray S (fun a' => match l[j]?, l[k]? with
      | some oj, some ok => wpDo P l.toArray S Q oj (wpPlan P l S Q pj) a' w ∧ wpDo P l.toArray S Q ok (wpPlan P l S Q pk) a' w
      | _, _ => False) (opsAt l seg) a) : wpPlan P l S Q (.two seg j pj k pk) a w := h
theorem plan_any (hsel : Region.noSelect l.toArray = true) (hQ : ∀ c a d v w, Q (.panic c) (Act.put a d v) w → Q (.panic c) a w) : ∀ (p : Plan) (listed : Array Bool) (a : Act) (w : World), S w → planB md l p listed = true → wpPlan P l S Q p a w →
    wpAnyH P md l.toArray Q S (planCost p) listed a w
  | .done seg, listed, a, w, hw, hB, h => take_seg hsel hQ (fuel := 0) hw seg listed a hB h fun listed' a' h1 h2 => ⟨by simpa using h1, h2⟩
  | .one seg k p, listed, a, w, hw, hB, h => by
    refine take_seg hsel hQ (fuel := planCost p + 1) hw seg listed a hB h fun listed' a' h1 h2 => ?_
    simp only [Bool.and_eq_true, decide_eq_true_eq] at h1
    obtain ⟨hr, hB2⟩ := h1
    refine ⟨(fun h0 => by rw [hr] at h0; cases h0), fun i hi => ?_⟩
    rw [hr] at hi
    obtain rfl : i = k := by simpa using hi
    cases ho : l[i]? with
    | none => rw [ho] at h2; exact h2.elim
    | some o =>
      rw [ho] at h2
      exact do_step ho h2 (fun a'' w'' hs hk => plan_any hsel hQ p _ a'' w'' hs hB2 hk)
  | .two seg j pj k pk, listed, a, w, hw, hB, h => by
    refine take_seg hsel hQ (fuel := planCost pj + 1) hw seg listed a hB h fun listed' a' h1 h2 => ?_
    simp only [Bool.and_eq_true, decide_eq_true_eq] at h1
    obtain ⟨hr, hcst, hBj, hBk⟩ := h1
    cases hoj : l[j]? with
    | none => rw [hoj] at h2; exact h2.elim
    | some oj =>
      cases hok : l[k]? with
      | none => rw [hoj, hok] at h2; exact h2.elim
      | some ok =>
        rw [hoj, hok] at h2
        obtain ⟨hj, hk⟩ := h2
        refine ⟨(fun h0 => by rw [hr] at h0; cases h0), fun i hi => ?_⟩
        rw [hr] at hi
        have hi' : i = j ∨ i = k := by simpa using hi
        rcases hi' with rfl | rfl
        · exact do_step hoj hj (fun a'' w'' hs h' => plan_any hsel hQ pj _ a'' w'' hs hBj h')
        · refine do_step hok hk (fun a'' w'' hs h' => ?_)
          have h3 := plan_any hsel hQ pk _ a'' w'' hs hBk h'
          rw [hcst] at h3
          exact h3
/-- The region, walked along a plan. -/
theorem wp_region_plan {id : Nat} {a : Act} {w : World} (S : World → Prop) (p : Plan) (hm : P.follows .mixedOrders = true) (hsel : Region.noSelect l.toArray = true)
    (hQ : ∀ c a d v w, Q (.panic c) (Act.put a d v) w → Q (.panic c) a w)
    (hB : planB .any l p (Array.replicate l.length false) = true) (hcost : planCost p ≤ l.length) (hS : S w.drew) (h : wpPlan P l S Q p a w.drew) : (Code.region id l.toArray true).wp P Q a w := by
  refine wp_region_held (S := S) hm ?_
  have h1 := wpAnyH_up (plan_any (md := .any) hsel hQ p (Array.replicate l.length false) a w.drew hS hB h) (l.length - planCost p)
  have e : planCost p + (l.length - planCost p) = l.toArray.size := by simp; omega
  rw [e] at h1
  simpa using h1
end
end Go.Proofs.YtkgclhkpncegnaaDoor
