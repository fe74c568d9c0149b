/-
  A Named: its sum is made once.
-/
import Derived.Test.YtkgclhkpncegnaaDoorOnce
import Derived.Test.YtkgclhkpncegnaaDoorAlive
import Derived.BigRegion
namespace Go.Proofs.YtkgclhkpncegnaaDoor
open Go.RowKit
set_option linter.unusedSimpArgs false
set_option linter.unusedVariables false

theorem add_one (b : Nat) (w : World) (hc : w.cell? ⟨b, 36, none⟩ = some (.int .i64 0)) (hz : w.frozen? ⟨b, 36, none⟩ = false) :
    Calls Tryd.prog 31 #[.pointer (some ⟨b, 36, none⟩), .int .i64 1] w fun e w' => e = .returned (.int .i64 1) ∧ w' = w.setCell ⟨b, 36, none⟩ (.int .i64 1) := by
  have hadd := run_call_add (P := Tryd.prog) Tryd.func39 (by kernel_rfl) (by kernel_rfl) (by kernel_rfl) .i64 (by kernel_rfl) (y := 1) (s := 1) hc hz (by simp [go_sem]; rfl)
  go_enter Tryd.func31, Tryd.ntmps31
  go_wp2
  go_ret
  exact ⟨rfl, rfl⟩
theorem load_count (b : Nat) (s : Int) (w : World) (hc : w.cell? ⟨b, 36, none⟩ = some (.int .i64 s)) :
    Calls Tryd.prog 28 #[.pointer (some ⟨b, 36, none⟩)] w fun e w' => e = .returned (.int .i64 s) ∧ w' = w := by
  have hl := run_call_load (P := Tryd.prog) Tryd.func36 (by kernel_rfl) (by kernel_rfl) (by kernel_rfl) .i64 (by kernel_rfl) hc
  go_enter Tryd.func28, Tryd.ntmps28
  go_wp2
  go_ret
  exact ⟨rfl, rfl⟩
theorem load_done (b : Nat) (d : Int) (w : World) (hc : w.cell? ⟨b, 1, none⟩ = some (.int .u32 d)) :
    Calls Tryd.prog 37 #[.pointer (some ⟨b, 1, none⟩)] w fun e w' => e = .returned (.bool (d != 0)) ∧ w' = w := by
  have hl := run_call_load (P := Tryd.prog) Tryd.func45 (by kernel_rfl) (by kernel_rfl) (by kernel_rfl) .u32 (by kernel_rfl) hc
  go_enter Tryd.func37, Tryd.ntmps37
  go_wp2
  go_ret
  exact ⟨rfl, rfl⟩
theorem sums_any (b : Nat) (v : Value) (d st sm : Int) (V : List Value) (s : Int) (w : World) (h : NamedAt w b v d st sm V s) :
    Calls Tryd.prog 12 #[.pointer (some ⟨b, 0, none⟩)] w fun e w' => e = .returned (.int .i64 s) ∧ w' = w := by
  have hl := load_count b s w h.c36
  go_enter Tryd.func12, Tryd.ntmps12
  go_wp2_with (go_at_call 28; refine hl.mono ?_; rintro e w' ⟨rfl, rfl⟩)
  go_ret
  exact ⟨rfl, rfl⟩

theorem BytesAt.far {w w' : World} {a : Option Addr} {l : List UInt8} {b : Nat} (h : BytesAt w a l) (hg : w.grownBy w' (some b)) (hba : ∀ x, a = some x → x.block ≠ b) : BytesAt w' a l := by
  intro i hi
  obtain ⟨g, off, h1, h2⟩ := h i hi
  exact ⟨g, off, h1, hg.cell h2 (by intro e; injection e with e; exact hba _ h1 e)⟩
theorem quiet_field {P : Program} {C : World → Prop} {o : Oper} {a : Act} {K : Act → Prop} (T : TypeId) (x : Operand) (f : Nat) (ho : o.op = .fieldAddr T x f)
    (v : Value) (hrun : ∀ w : World, (Instr.fieldAt T (a.eval x) f).run P w = .ok v w)
    (h : K (a.put o.dst v)) : o.quiet P a C K :=
  ⟨v, fun w _ => by
    unfold Oper.quietAt execOp
    simp only [ho, Sem.run_bind, Sem.run_pure, hrun w, Result.andThen_ok]
    exact ⟨rfl, rfl⟩, h⟩
theorem field0 (b : Nat) (w : World) : (Instr.fieldAt 70 (.pointer (some ⟨b, 0, none⟩)) 0).run Tryd.prog w = .ok (.pointer (some ⟨b, 0, none⟩)) w := by
  go_simp
theorem field2 (b : Nat) (w : World) : (Instr.fieldAt 70 (.pointer (some ⟨b, 0, none⟩)) 2).run Tryd.prog w = .ok (.pointer (some ⟨b, 4, none⟩)) w := by
  go_simp
theorem step_store_mid {P : Program} {ops : Array Oper} {o : Oper} {a : Act} {w : World} {K : Act → World → Prop} {Q : Exit → Act → World → Prop} {E : Prop} (hgd : o.guard = none) (ty : TypeId) (x y : Operand) (ho : o.op = .store ty x y)
    (b off : Nat) (cells : Array Value) (hx : a.eval x = .pointer (some ⟨b, off, none⟩)) (hy : a.eval y = .agg cells)
    (ht : w.there b off cells.size) (hi : (P.info? ty).map (·.size) = some cells.size) (h1 : cells.all (·.oneCell') = true)
    (h : K (a.put o.dst undef) (w.setCells b off cells.toList)) : if Region.wanted o (yielded ops a.tmps) = true then Oper.wp P o a w K Q else E := by
  have hw : Region.wanted o (yielded ops a.tmps) = true := by simp [Region.wanted, hgd]
  rw [if_pos hw]
  exact wp_store_mid ty x y ho b off cells hx hy ht hi h1 h

set_option maxRecDepth 100000 in
set_option maxHeartbeats 1000000 in
/-- What is called once. -/
theorem once_any (b : Nat) (pl : Addr) (a : Option Addr) (l : List UInt8) (cap : Nat) (d st sm : Int) (V : List Value) (w : World) (hN : NamedAt w b (.slice a l.length cap) d st sm V 0)
    (hp : w.cell? pl = some (.pointer (some ⟨b, 0, none⟩))) (hpb : pl.block ≠ b) (hb : BytesAt w a l) (hcap : a = none → cap = 0) (hlc : l.length ≤ cap) (hc : cap ≤ 9223372036854775807) (hk : KeysAt w) :
    Calls Tryd.prog 30 #[.pointer (some pl)] w fun e w' => e = .returned (.tuple #[]) ∧ NamedAt w' b (.slice a l.length cap) d st sm (bvs (sumL l)) 1 ∧ w.grownBy w' (some b) := by
  obtain ⟨X, hX⟩ : ∃ X, X = (bvs (sumL l)).toArray := ⟨_, rfl⟩
  have hXz : X.size = 32 := by rw [hX, sumL, ← brow_all, brow_size]
  have hX1 : X.all (·.oneCell') = true := by rw [hX]; simpa using bvs_oneCell (sumL l)
  have hXs : (Tryd.prog.info? 29).map (·.size) = some X.size := by rw [hXz]; kernel_rfl
  have hXl : X.toList = bvs (sumL l) := by rw [hX]
  have hXn : (bvs (sumL l)).length = 32 := by rw [← hXl]; simpa using hXz
  have hpl := World.block_lt_of_cell? w _ hp
  have hS0 : ∀ W, (W.cell? pl = some (.pointer (some ⟨b, 0, none⟩)) ∧ W.cell? ⟨b, 0, none⟩ = some (.slice a l.length cap) ∧ w.grownBy W (some b)) → W.cell? pl = some (.pointer (some ⟨b, 0, none⟩)) := fun _ h => h.1
  have hS1 : ∀ W, (W.cell? pl = some (.pointer (some ⟨b, 0, none⟩)) ∧ W.cell? ⟨b, 0, none⟩ = some (.slice a l.length cap) ∧ w.grownBy W (some b)) → W.cell? ⟨b, 0, none⟩ = some (.slice a l.length cap) := fun _ h => h.2.1
  have hS2 : ∀ W, Below w.heap.size w W → (W.cell? pl = some (.pointer (some ⟨b, 0, none⟩)) ∧ W.cell? ⟨b, 0, none⟩ = some (.slice a l.length cap) ∧ w.grownBy W (some b)) := fun W h =>
    ⟨cell_later h hp, cell_later h hN.c0, grownBy_below h _⟩
  have hSum : ∀ W, Below w.heap.size w W → Calls Tryd.prog 9 #[.slice a l.length cap] W fun e W' => e = .returned (.agg X) ∧ Below W.heap.size W W' := fun W h => by
    rw [hX]; exact sum_any a l cap W (BytesAt.later' hb h) hcap hlc hc (fun i hi => cell_later h (hk i hi))
  have hs : Below w.heap.size w w.drew := (Below.refl _ _).drew
  have HN := Lib.hid hN
  have HS0 := Lib.hid hS0
  have HS1 := Lib.hid hS1
  have HS2 := Lib.hid hS2
  have HSUM := Lib.hid hSum
  have HXZ := Lib.hid hXz
  have HX1 := Lib.hid hX1
  have HXS := Lib.hid hXs
  have HXL := Lib.hid hXl
  have HXN := Lib.hid hXn
  have HP := Lib.hid hp
  have HK := Lib.hid hk
  clear hX hN hS0 hS1 hS2 hSum hXz hX1 hXs hXl hXn hp hk
  go_enter Tryd.func30, Tryd.ntmps30
  go_upto_region 0 with (fail)
  refine wp_region_sched (fun W => W.cell? pl = some (.pointer (some ⟨b, 0, none⟩)) ∧ W.cell? ⟨b, 0, none⟩ = some (.slice a l.length cap) ∧ w.grownBy W (some b)) [([0, 1], 2), ([3, 4], 5), ([], 6), ([7], 8)] [] (by kernel_rfl) (by kernel_rfl) (fun _ _ d _ _ h => by cases d <;> exact h) (by kernel_rfl) (of_decide_eq_true (by kernel_rfl)) (HS2.out _ hs) ?_
  refine wpSched_cons ?_
  dsimp only [opsAt, List.filterMap, List.getElem?_cons_zero, List.getElem?_cons_succ]
  repeat (first
    | go_big_quiet_skip
    | (go_big_quiet_want
       first
         | (refine quiet_load_cell 33 (.tmp 0) rfl pl rfl (.pointer (some ⟨b, 0, none⟩)) _ HS0.out Tryd.underlying33 rfl ?_
            simp only [Act.put, List.setIfInBounds_toArray, List.set_cons_zero, List.set_cons_succ]
            go_big_quiet_on)
         | (go_big_quiet_op
            first | refine ⟨_, fun _ _ => rfl, ?_⟩ | refine ⟨_, fun _ _ _ => rfl, ?_⟩ | refine ⟨_, fun _ _ _ _ => rfl, ?_⟩
            go_big_quiet_on)
         | (go_big_quiet_op
            go_big_quiet_on)))
  refine wpQuiet_nil ?_
  intro KK hKK
  go_simp
  skip
  refine hKK _ _ (HS2.out _ hs) ?_
  clear hKK KK
  try simp only [Act.put, List.setIfInBounds_toArray, List.set_cons_zero, List.set_cons_succ]
  refine wpSched_cons ?_
  dsimp only [opsAt, List.filterMap, List.getElem?_cons_zero, List.getElem?_cons_succ]
  repeat (first
    | go_big_quiet_skip
    | (go_big_quiet_want
       first
         | (refine quiet_field 70 (.tmp 3) 0 rfl (.pointer (some ⟨b, 0, none⟩)) (fun _ => field0 b _) ?_
            simp only [Act.put, List.setIfInBounds_toArray, List.set_cons_zero, List.set_cons_succ]
            go_big_quiet_on)
         | (refine quiet_load_cell 22 (.tmp 4) rfl ⟨b, 0, none⟩ rfl (.slice a l.length cap) _ HS1.out Tryd.underlying22 rfl ?_
            simp only [Act.put, List.setIfInBounds_toArray, List.set_cons_zero, List.set_cons_succ]
            go_big_quiet_on)
         | (go_big_quiet_op
            first | refine ⟨_, fun _ _ => rfl, ?_⟩ | refine ⟨_, fun _ _ _ => rfl, ?_⟩ | refine ⟨_, fun _ _ _ _ => rfl, ?_⟩
            go_big_quiet_on)
         | (go_big_quiet_op
            go_big_quiet_on)))
  refine wpQuiet_nil ?_
  intro KK hKK
  go_simp
  refine (HSUM.out _ hs).mono ?_
  rintro e w3 ⟨rfl, hb3⟩
  replace hs := hs.trans (hb3.mono hs.size)
  clear hb3
  refine hKK _ _ (HS2.out _ hs) ?_
  clear hKK KK
  try simp only [Act.put, List.setIfInBounds_toArray, List.set_cons_zero, List.set_cons_succ]
  refine wpSched_cons ?_
  dsimp only [opsAt, List.filterMap, List.getElem?_cons_zero, List.getElem?_cons_succ]
  repeat (first
    | go_big_quiet_skip
    | (go_big_quiet_want
       first
         | (go_big_quiet_op
            first | refine ⟨_, fun _ _ => rfl, ?_⟩ | refine ⟨_, fun _ _ _ => rfl, ?_⟩ | refine ⟨_, fun _ _ _ _ => rfl, ?_⟩
            go_big_quiet_on)
         | (go_big_quiet_op
            go_big_quiet_on)))
  refine wpQuiet_nil ?_
  intro KK hKK
  go_simp
  skip
  refine hKK _ _ (HS2.out _ hs) ?_
  clear hKK KK
  try simp only [Act.put, List.setIfInBounds_toArray, List.set_cons_zero, List.set_cons_succ]
  refine wpSched_cons ?_
  dsimp only [opsAt, List.filterMap, List.getElem?_cons_zero, List.getElem?_cons_succ]
  repeat (first
    | go_big_quiet_skip
    | (go_big_quiet_want
       first
         | (refine quiet_field 70 (.tmp 7) 2 rfl (.pointer (some ⟨b, 4, none⟩)) (fun _ => field2 b _) ?_
            simp only [Act.put, List.setIfInBounds_toArray, List.set_cons_zero, List.set_cons_succ]
            go_big_quiet_on)
         | (go_big_quiet_op
            first | refine ⟨_, fun _ _ => rfl, ?_⟩ | refine ⟨_, fun _ _ _ => rfl, ?_⟩ | refine ⟨_, fun _ _ _ _ => rfl, ?_⟩
            go_big_quiet_on)
         | (go_big_quiet_op
            go_big_quiet_on)))
  have hN3 : NamedAt w3 b (.slice a l.length cap) d st sm V 0 := HN.out.keep (grownBy_below hs none) (by simp)
  have hN4 := hN3.setId (bvs (sumL l)) HXN.out
  have hg4 : w.grownBy (w3.setCells b 4 (bvs (sumL l))) (some b) := grownBy_trans (grownBy_below hs _) (grownBy_setCells' b _ 4 w3)
  have hp4 : (w3.setCells b 4 (bvs (sumL l))).cell? pl = some (.pointer (some ⟨b, 0, none⟩)) := hg4.cell HP.out (by intro e; injection e with e; exact hpb e)
  refine wpQuiet_nil ?_
  intro KK hKK
  refine step_store_mid rfl 29 (.tmp 8) (.tmp 6) rfl b 4 X rfl rfl (by rw [HXZ.out]; exact hN3.there) HXS.out HX1.out ?_
  rw [HXL.out]
  refine hKK _ _ ⟨hp4, hN4.c0, hg4⟩ ?_
  clear hKK KK
  try simp only [Act.put, List.setIfInBounds_toArray, List.set_cons_zero, List.set_cons_succ]
  refine wpSched_nil ?_
  dsimp only [opsAt, List.filterMap, List.getElem?_cons_zero, List.getElem?_cons_succ]
  refine wpQuiet_nil ?_
  obtain ⟨w4, hw4⟩ : ∃ w4, w4 = w3.setCells b 4 (bvs (sumL l)) := ⟨_, rfl⟩
  rw [← hw4] at hN4 hg4 hp4 ⊢
  have ha := add_one b w4 hN4.c36 (hN4.free _)
  have HA := Lib.hid ha
  have HN4 := Lib.hid hN4
  have HG4 := Lib.hid hg4
  clear ha hN4 hg4 hN3 hw4
  go_wp2_with (go_at_call 31; refine HA.out.mono ?_; rintro e w5 ⟨rfl, rfl⟩)
  go_end0
  exact ⟨rfl, HN4.out.set36 1, grownBy_trans HG4.out (grownBy_setCell _ _ _ _)⟩

set_option maxRecDepth 100000 in
set_option maxHeartbeats 1600000 in
/-- '(*sync.Once).doSlow', not yet done and the lock free. -/
theorem slow_first (b : Nat) (pl : Addr) (a : Option Addr) (l : List UInt8) (cap : Nat) (sm : Int) (V : List Value) (w : World) (hN : NamedAt w b (.slice a l.length cap) 0 0 sm V 0)
    (hp : w.cell? pl = some (.pointer (some ⟨b, 0, none⟩))) (hpb : pl.block ≠ b) (hb : BytesAt w a l) (hba : ∀ x, a = some x → x.block ≠ b) (hcap : a = none → cap = 0) (hlc : l.length ≤ cap) (hc : cap ≤ 9223372036854775807) (hk : KeysAt w) (hb0 : b ≠ 0) :
    Calls Tryd.prog 38 #[.pointer (some ⟨b, 1, none⟩), .func (.func 30) #[] #[.pointer (some pl)]] w fun e w' => e = .returned (.tuple #[]) ∧ NamedAt w' b (.slice a l.length cap) 1 0 sm (bvs (sumL l)) 1 ∧ w.grownBy w' (some b) := by
  obtain ⟨w1, hw1⟩ : ∃ w1, w1 = w.setCell ⟨b, 2, none⟩ (.int .i32 1) := ⟨_, rfl⟩
  have hN1 : NamedAt w1 b (.slice a l.length cap) 0 1 sm V 0 := by rw [hw1]; exact hN.set2 1
  have hg1 : w.grownBy w1 (some b) := by rw [hw1]; exact grownBy_setCell _ _ _ _
  have hlock := lock_free ⟨b, 2, none⟩ w hN.c2 (hN.free _)
  rw [← hw1] at hlock
  have hload := load_done b 0 w1 hN1.c1
  have honce := once_any b pl a l cap 0 1 sm V w1 hN1 (hg1.cell hp (by intro e; injection e with e; exact hpb e)) hpb (BytesAt.far hb hg1 hba) hcap hlc hc (fun i hi => hg1.cell (hk i hi) (by intro e; injection e with e; exact hb0 e.symm))
  have hnot : ∀ (x : Bool) (w : World), (Op.unary .not (.bool x)).run Tryd.prog w = .ok (.bool (!x)) w := fun _ _ => rfl
  have HL := Lib.hid hlock
  have HD := Lib.hid hload
  have HO := Lib.hid honce
  have HG1 := Lib.hid hg1
  clear hw1 hlock hload honce hN hp hb hk hg1 hN1
  go_enter_defers Tryd.func38, Tryd.ntmps38
  go_wp2_with (first | (go_at_call 46; refine HL.out.mono ?_; rintro e w2 ⟨rfl, rfl⟩) | (go_at_call 37; refine HD.out.mono ?_; rintro e w2 ⟨rfl, rfl⟩) | (go_at_call 30; refine HO.out.mono ?_; rintro e w3 ⟨rfl, hN3, hg3⟩))
  refine leaves_cons (f := 48) (args := #[.pointer (some ⟨b, 1, none⟩), .bool true]) (by simp) (by simp [go_sem]) ?_
  refine (store_deferred ⟨b, 1, none⟩ (.int .u32 0) .returning _ hN3.c1 (hN3.free _)).mono ?_
  rintro e u' w4 ⟨rfl, rfl, hw4⟩
  have hN4 : NamedAt w4 b (.slice a l.length cap) 1 1 sm (bvs (sumL l)) 1 := by rw [hw4]; exact (hN3.keep (grownBy_drew _ none) (by simp)).set1 1
  have hg4 : w3.grownBy w4 (some b) := by rw [hw4]; exact grownBy_trans (grownBy_drew _ _) (grownBy_setCell _ _ _ _)
  refine leaves_cons (f := 47) (args := #[.pointer (some ⟨b, 2, none⟩)]) (by simp [settle]) (by simp [go_sem]) ?_
  refine (unlock_deferred ⟨b, 2, none⟩ _ _ hN4.c2 (hN4.free _)).mono ?_
  rintro e u' w5 ⟨rfl, rfl, hw5⟩
  have hN5 : NamedAt w5 b (.slice a l.length cap) 1 0 sm (bvs (sumL l)) 1 := by rw [hw5]; exact hN4.set2 0
  have hg5 : w4.grownBy w5 (some b) := by rw [hw5]; exact grownBy_setCell _ _ _ _
  have hgr := grownBy_trans (grownBy_trans (grownBy_trans HG1.out hg3) hg4) hg5
  simp [Leaves, settle, results, Tryd.results38]
  exact ⟨hN5, hgr⟩

set_option maxRecDepth 100000 in
set_option maxHeartbeats 1600000 in
/-- '(*sync.Once).Do', not yet done, the lock free. -/
theorem do_first (b : Nat) (pl : Addr) (a : Option Addr) (l : List UInt8) (cap : Nat) (sm : Int) (V : List Value) (w : World) (hN : NamedAt w b (.slice a l.length cap) 0 0 sm V 0)
    (hp : w.cell? pl = some (.pointer (some ⟨b, 0, none⟩))) (hpb : pl.block ≠ b) (hb : BytesAt w a l) (hba : ∀ x, a = some x → x.block ≠ b) (hcap : a = none → cap = 0) (hlc : l.length ≤ cap) (hc : cap ≤ 9223372036854775807) (hk : KeysAt w) (hb0 : b ≠ 0) :
    Calls Tryd.prog 29 #[.pointer (some ⟨b, 1, none⟩), .func (.func 30) #[] #[.pointer (some pl)]] w fun e w' => e = .returned (.tuple #[]) ∧ NamedAt w' b (.slice a l.length cap) 1 0 sm (bvs (sumL l)) 1 ∧ w.grownBy w' (some b) := by
  have hload := load_done b 0 w hN.c1
  have hslow := slow_first b pl a l cap sm V w hN hp hpb hb hba hcap hlc hc hk hb0
  have hnot : ∀ (x : Bool) (w : World), (Op.unary .not (.bool x)).run Tryd.prog w = .ok (.bool (!x)) w := fun _ _ => rfl
  have HD := Lib.hid hload
  have HS := Lib.hid hslow
  clear hload hslow hN hp hb hk
  go_enter Tryd.func29, Tryd.ntmps29
  go_wp2_with (first | (go_at_call 37; refine HD.out.mono ?_; rintro e w2 ⟨rfl, rfl⟩) | (go_at_call 38; refine HS.out.mono ?_; rintro e w3 ⟨rfl, hN3, hg3⟩))
  go_end0
  exact ⟨rfl, hN3, hg3⟩

set_option maxRecDepth 100000 in
/-- '(*sync.Once).Do', done already. -/
theorem do_done (b : Nat) (fv : Value) (w : World) (h : w.cell? ⟨b, 1, none⟩ = some (.int .u32 1)) :
    Calls Tryd.prog 29 #[.pointer (some ⟨b, 1, none⟩), fv] w fun e w' => e = .returned (.tuple #[]) ∧ w' = w := by
  have hload := load_done b 1 w h
  have hnot : ∀ (x : Bool) (w : World), (Op.unary .not (.bool x)).run Tryd.prog w = .ok (.bool (!x)) w := fun _ _ => rfl
  have HD := Lib.hid hload
  clear hload
  go_enter Tryd.func29, Tryd.ntmps29
  go_wp2_with (go_at_call 37; refine HD.out.mono ?_; rintro e w2 ⟨rfl, rfl⟩)
  go_end0
  exact ⟨rfl, rfl⟩
end Go.Proofs.YtkgclhkpncegnaaDoor
