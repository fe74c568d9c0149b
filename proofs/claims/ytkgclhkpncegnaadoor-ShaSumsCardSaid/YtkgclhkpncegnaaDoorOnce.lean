/-
  The parts of sync.Once, one goroutine: what 'doSlow' defers, the lock that is free.
-/
import Derived.Test.YtkgclhkpncegnaaDoorSumWalk
import Derived.Tactics2
import Derived.Defers
import Derived.Laws.Pointers
import Derived.Laws.LoneSync
import Derived.RegionTactic
import Derived.RegionCalls
import Derived.Deep.MidRow
namespace Go.Proofs.YtkgclhkpncegnaaDoor
open Go.RowKit
set_option linter.unusedSimpArgs false
set_option linter.unusedVariables false

theorem disable (w : World) : (callFunc 55 #[]).run Tryd.prog w = .ok (.value (.tuple #[])) w := run_call_mark0 Tryd.func55 (by kernel_rfl) (by kernel_rfl) (by kernel_rfl) .disable (by kernel_rfl) w
theorem enable (w : World) : (callFunc 57 #[]).run Tryd.prog w = .ok (.value (.tuple #[])) w := run_call_mark0 Tryd.func57 (by kernel_rfl) (by kernel_rfl) (by kernel_rfl) .enable (by kernel_rfl) w
theorem acquire (a : Addr) (w : World) : (callFunc 58 #[.pointer (some a)]).run Tryd.prog w = .ok (.value (.tuple #[])) w := run_call_marked Tryd.func58 (by kernel_rfl) (by kernel_rfl) (by kernel_rfl) .acquire (by kernel_rfl) a w
theorem releaseMerge (a : Addr) (w : World) : (callFunc 60 #[.pointer (some a)]).run Tryd.prog w = .ok (.value (.tuple #[])) w := run_call_marked Tryd.func60 (by kernel_rfl) (by kernel_rfl) (by kernel_rfl) .releaseMerge (by kernel_rfl) a w

/-- '(*sync/atomic.Bool).Store(true)', ENTERED AS A DEFERRED CALL: the cell holds 1. -/
theorem store_deferred (a : Addr) (x : Value) (u : FrameMode) (w : World) (hc : w.cell? a = some x) (hz : w.frozen? a = false) :
    CallsD Tryd.prog 48 #[.pointer (some a), .bool true] u w fun e u' w' => u' = u ∧ (e = .returned (.tuple #[]) ∧ w' = w.drew.setCell a (.int .u32 1)) := by
  have hc' : w.drew.cell? a = some x := by go_simp
  have hz' : w.drew.frozen? a = false := by go_simp
  have hst := run_call_store (P := Tryd.prog) Tryd.func53 (by kernel_rfl) (by kernel_rfl) (by kernel_rfl) (by kernel_rfl) (k := .u32) (y := 1) hc' hz'
  go_enter_d Tryd.func48, Tryd.ntmps48
  go_wp2
  go_region_calls
  all_goals (go_end0; exact ⟨rfl, rfl⟩)

set_option maxRecDepth 100000 in
/-- '(*sync.Mutex).Unlock', ENTERED AS A DEFERRED CALL, the lock held and nobody waiting (state 1): state 0. -/
theorem unlock_deferred (a : Addr) (u : FrameMode) (w : World) (hc : w.cell? a = some (.int .i32 1)) (hz : w.frozen? a = false) :
    CallsD Tryd.prog 47 #[.pointer (some a)] u w fun e u' w' => u' = u ∧ (e = .returned (.tuple #[]) ∧ w' = w.setCell a (.int .i32 0)) := by
  have hd := disable
  have he := enable
  have hr := releaseMerge
  have hadd := run_call_add (P := Tryd.prog) Tryd.func61 (by kernel_rfl) (by kernel_rfl) (by kernel_rfl) .i32 (by kernel_rfl) (y := -1) (s := 0) hc hz (by simp [go_sem]; rfl)
  have hcv := run_convert_to_unsafe (P := Tryd.prog) (src := 100) (dst := 104) Tryd.underlying100 Tryd.underlying104 (by kernel_rfl) hc
  go_enter_d Tryd.func47, Tryd.ntmps47
  go_wp2
  go_end0
  go_wp2
  go_end0
  exact ⟨rfl, rfl⟩

set_option maxRecDepth 100000 in
/-- '(*sync.Mutex).Lock', the lock free (state 0): state 1. A CONTRACT, to be met at the call ('go_at_call 9'). -/
theorem lock_free (a : Addr) (w : World) (hc : w.cell? a = some (.int .i32 0)) (hz : w.frozen? a = false) :
    Calls Tryd.prog 46 #[.pointer (some a)] w fun e w' => e = .returned (.tuple #[]) ∧ w' = w.setCell a (.int .i32 1) := by
  have hd := disable
  have he := enable
  have ha := acquire
  have hcas := run_call_cas_hit (P := Tryd.prog) Tryd.func56 (by kernel_rfl) (by kernel_rfl) (by kernel_rfl) .i32 (by kernel_rfl) (y := 1) hc hz
  have hc' : (w.setCell a (.int .i32 1)).cell? a = some (.int .i32 1) := World.cell?_setCell_same w a _ hc
  have hcv := run_convert_to_unsafe (P := Tryd.prog) (src := 100) (dst := 104) Tryd.underlying100 Tryd.underlying104 (by kernel_rfl) hc'
  go_enter Tryd.func46, Tryd.ntmps46
  go_wp2
  first | go_end0 | (simp only [Exit.inBlock, Exit.then]; refine bodyPost_ret (results_none rfl _ _ _) rfl ?_) | refine bodyPost_ret (results_none rfl _ _ _) rfl ?_
  go_wp2
  go_end0
  exact ⟨rfl, rfl⟩

/-! A Named: its block. -/
def namedRow (v : Value) (d st sm : Int) (V : List Value) (s : Int) : Array Value := (v :: .int .u32 d :: .int .i32 st :: .int .u32 sm :: (V ++ [.int .i64 s])).toArray
def NamedAt (w : World) (b : Nat) (v : Value) (d st sm : Int) (V : List Value) (s : Int) : Prop := V.length = 32 ∧ w.heap[b]? = some (.cells (namedRow v d st sm V s) 70 (0, 0))
theorem namedRow_36 (v : Value) (d st sm : Int) (V : List Value) (s : Int) (h : V.length = 32) : (namedRow v d st sm V s)[36]? = some (.int .i64 s) := by
  simp only [namedRow, List.getElem?_toArray, List.getElem?_cons_succ]
  rw [List.getElem?_append_right (by omega)]
  simp [h]
theorem namedRow_id (v : Value) (d st sm : Int) (V : List Value) (s : Int) (j : Nat) (u : Value) (h : V[j]? = some u) : (namedRow v d st sm V s)[4 + j]? = some u := by
  have hj : j < V.length := (List.getElem?_eq_some_iff.1 h).1
  rw [show 4 + j = j + 1 + 1 + 1 + 1 by omega]
  simp only [namedRow, List.getElem?_toArray, List.getElem?_cons_succ]
  rw [List.getElem?_append_left hj, h]
theorem namedRow_set36 (v : Value) (d st sm : Int) (V : List Value) (s s' : Int) (h : V.length = 32) : (namedRow v d st sm V s).setIfInBounds 36 (.int .i64 s') = namedRow v d st sm V s' := by
  unfold namedRow
  simp only [List.setIfInBounds_toArray, List.set_cons_succ]
  rw [List.set_append_right _ _ (by omega)]
  simp [h]
theorem NamedAt.lt {w : World} {b : Nat} {v : Value} {d st sm : Int} {V : List Value} {s : Int} (h : NamedAt w b v d st sm V s) : b < w.heap.size := lt_of_block h.2
theorem NamedAt.keep {w w' : World} {b : Nat} {v : Value} {d st sm : Int} {V : List Value} {s : Int} {row : Option Nat} (h : NamedAt w b v d st sm V s) (hg : w.grownBy w' row) (hr : some b ≠ row) : NamedAt w' b v d st sm V s :=
  ⟨h.1, (hg.block b h.lt hr).trans h.2⟩
theorem NamedAt.c0 {w : World} {b : Nat} {v : Value} {d st sm : Int} {V : List Value} {s : Int} (h : NamedAt w b v d st sm V s) : w.cell? ⟨b, 0, none⟩ = some v := by rw [cell_of_block h.2]; rfl
theorem NamedAt.c1 {w : World} {b : Nat} {v : Value} {d st sm : Int} {V : List Value} {s : Int} (h : NamedAt w b v d st sm V s) : w.cell? ⟨b, 1, none⟩ = some (.int .u32 d) := by rw [cell_of_block h.2]; rfl
theorem NamedAt.c2 {w : World} {b : Nat} {v : Value} {d st sm : Int} {V : List Value} {s : Int} (h : NamedAt w b v d st sm V s) : w.cell? ⟨b, 2, none⟩ = some (.int .i32 st) := by rw [cell_of_block h.2]; rfl
theorem NamedAt.c36 {w : World} {b : Nat} {v : Value} {d st sm : Int} {V : List Value} {s : Int} (h : NamedAt w b v d st sm V s) : w.cell? ⟨b, 36, none⟩ = some (.int .i64 s) := by rw [cell_of_block h.2]; exact namedRow_36 _ _ _ _ _ _ h.1
theorem NamedAt.free {w : World} {b : Nat} {v : Value} {d st sm : Int} {V : List Value} {s : Int} (h : NamedAt w b v d st sm V s) (i : Nat) : w.frozen? ⟨b, i, none⟩ = false := free_of_block h.2
theorem NamedAt.range {w : World} {b : Nat} {v : Value} {d st sm : Int} {V : List Value} {s : Int} (h : NamedAt w b v d st sm V s) : w.rangeAt b 4 V := fun j u hj => by
  rw [cell_of_block h.2]; exact namedRow_id _ _ _ _ _ _ _ _ hj
theorem NamedAt.there {w : World} {b : Nat} {v : Value} {d st sm : Int} {V : List Value} {s : Int} (h : NamedAt w b v d st sm V s) : w.there b 4 32 := fun j hj =>
  ⟨h.range.isSome j (by rw [h.1]; exact hj), h.free _⟩
theorem NamedAt.set1 {w : World} {b : Nat} {v : Value} {d st sm : Int} {V : List Value} {s : Int} (h : NamedAt w b v d st sm V s) (d' : Int) : NamedAt (w.setCell ⟨b, 1, none⟩ (.int .u32 d')) b v d' st sm V s :=
  ⟨h.1, by rw [heap_setCell_same w b 1 _ _ _ h.2]; rfl⟩
theorem NamedAt.set2 {w : World} {b : Nat} {v : Value} {d st sm : Int} {V : List Value} {s : Int} (h : NamedAt w b v d st sm V s) (st' : Int) : NamedAt (w.setCell ⟨b, 2, none⟩ (.int .i32 st')) b v d st' sm V s :=
  ⟨h.1, by rw [heap_setCell_same w b 2 _ _ _ h.2]; rfl⟩
theorem NamedAt.set36 {w : World} {b : Nat} {v : Value} {d st sm : Int} {V : List Value} {s : Int} (h : NamedAt w b v d st sm V s) (s' : Int) : NamedAt (w.setCell ⟨b, 36, none⟩ (.int .i64 s')) b v d st sm V s' :=
  ⟨h.1, by rw [heap_setCell_same w b 36 _ _ _ h.2, namedRow_set36 _ _ _ _ _ _ _ h.1]⟩
theorem setCells_mid (b : Nat) (T : TypeId) (post : List Value) : ∀ (vs done old : List Value) (w : World), vs.length = old.length → w.heap[b]? = some (.cells (done ++ old ++ post).toArray T (0, 0)) → (w.setCells b done.length vs).heap[b]? = some (.cells (done ++ vs ++ post).toArray T (0, 0))
  | [], done, old, w, hl, h => by
    have : old = [] := by cases old <;> simp_all
    subst this
    exact h
  | _ :: _, _, [], _, hl, _ => by simp at hl
  | v :: vs, done, r :: old, w, hl, h => by
    have h1 := heap_setCell_same w b done.length _ _ v h
    have e : ((done ++ r :: old ++ post).toArray.setIfInBounds done.length v) = ((done ++ [v]) ++ old ++ post).toArray := by simp
    rw [e] at h1
    have h2 := setCells_mid b T post vs (done ++ [v]) old _ (by simpa using hl) h1
    rw [World.setCells]
    simpa using h2
theorem NamedAt.setId {w : World} {b : Nat} {v : Value} {d st sm : Int} {V : List Value} {s : Int} (h : NamedAt w b v d st sm V s) (V' : List Value) (h' : V'.length = 32) : NamedAt (w.setCells b 4 V') b v d st sm V' s :=
  ⟨h', by
    have h1 := setCells_mid b 70 [.int .i64 s] V' [v, .int .u32 d, .int .i32 st, .int .u32 sm] V w (by rw [h', h.1]) (by rw [h.2]; simp [namedRow])
    rw [show (4 : Nat) = [v, Value.int .u32 d, .int .i32 st, .int .u32 sm].length from rfl, h1]
    simp [namedRow]⟩
theorem grownBy_setCells' (b : Nat) : ∀ (vs : List Value) (o : Nat) (w : World), w.grownBy (w.setCells b o vs) (some b)
  | [], _, _ => ⟨rfl, rfl, rfl, Nat.le_refl _, fun _ _ _ => rfl⟩
  | v :: r, o, w => grownBy_trans (grownBy_setCell w b o v) (grownBy_setCells' b r (o + 1) _)
end Go.Proofs.YtkgclhkpncegnaaDoor
