/-
  The walk of the reference's GetId.
-/
import Derived.Test.YtoaboehmjfnceaaGetText
import Derived.Deep.RegionHeld3
import Derived.Test.YtoaboehmjfnceaaTail
import Derived.Test.YtoaboehmjfnceaaQuiet
import Derived.Deep.MidRow
namespace Go.Proofs.Ytoaboehmjfnceaa
open Go.RowKit

theorem setCells_other (b k : Nat) (hk : k ≠ b) : ∀ (vs : List Value) (o : Nat) (w : World), (w.setCells b o vs).heap[k]? = w.heap[k]?
  | [], _, _ => rfl
  | v :: r, o, w => by
    rw [World.setCells, setCells_other b k hk r (o + 1) _]
    exact Below.heap_setCell _ _ _ _ hk
theorem setCells_whole (b : Nat) (T : TypeId) : ∀ (vs done : List Value) (rest : List Value) (w : World), rest.length = vs.length → w.heap[b]? = some (.cells (done ++ rest).toArray T (0, 0)) → (w.setCells b done.length vs).heap[b]? = some (.cells (done ++ vs).toArray T (0, 0))
  | [], done, rest, _, hl, h => by
    have : rest = [] := List.eq_nil_of_length_eq_zero hl
    subst this
    exact h
  | _ :: _, _, [], _, hl, _ => by simp at hl
  | v :: vs, done, r :: rest, w, hl, h => by
    have h1 := heap_setCell_same w b done.length _ _ v h
    have e : ((done ++ r :: rest).toArray.setIfInBounds done.length v) = ((done ++ [v]) ++ rest).toArray := by simp
    rw [e] at h1
    have h2 := setCells_whole b T vs (done ++ [v]) rest _ (by simpa using hl) h1
    rw [World.setCells]
    simpa using h2
theorem grownBy_setCells (b : Nat) : ∀ (vs : List Value) (o : Nat) (w : World), w.grownBy (w.setCells b o vs) (some b)
  | [], _, _ => ⟨rfl, rfl, rfl, Nat.le_refl _, fun _ _ _ => rfl⟩
  | v :: r, o, w => grownBy_trans (grownBy_setCell w b o v) (grownBy_setCells b r (o + 1) _)

/-- 32 zero bytes, as the model writes them. -/
def lit32 : Array Value := #[.int .u8 0, .int .u8 0, .int .u8 0, .int .u8 0, .int .u8 0, .int .u8 0, .int .u8 0, .int .u8 0, .int .u8 0, .int .u8 0, .int .u8 0, .int .u8 0, .int .u8 0, .int .u8 0, .int .u8 0, .int .u8 0, .int .u8 0, .int .u8 0, .int .u8 0, .int .u8 0, .int .u8 0, .int .u8 0, .int .u8 0, .int .u8 0, .int .u8 0, .int .u8 0, .int .u8 0, .int .u8 0, .int .u8 0, .int .u8 0, .int .u8 0, .int .u8 0]
theorem lit32_eq : lit32 = (bvs id0).toArray := by kernel_rfl
theorem lit32_all : lit32.all (·.oneCell') = true := by
  rw [lit32_eq]
  simpa using bvs_oneCell id0
theorem lit32_size : lit32.size = 32 := rfl
theorem sizeArr : (Try.prog.info? 29).map (·.size) = some 32 := by kernel_rfl
theorem sizeLitA : (Try.prog.info? 29).map (·.size) = some lit32.size := by rw [sizeArr, lit32_size]
def zarr : Obj := .cells lit32 29
/-- The row that has taken k bytes. -/
def took (l : List UInt8) (k : Nat) : List UInt8 := l.take k ++ List.replicate (32 - k) 0
theorem took_zero (l : List UInt8) : took l 0 = id0 := rfl
theorem took_end (l : List UInt8) : took l 32 = l.take 32 := by simp [took]
theorem took_step (l : List UInt8) (k : Nat) (h : k < l.length) (hk : k < 32) : (took l k).set k l[k] = took l (k + 1) := by
  unfold took
  have hl : (l.take k).length = k := by simp; omega
  rw [show 32 - k = (32 - (k + 1)) + 1 by omega, List.replicate_succ, List.set_append_right _ _ (by omega), hl, Nat.sub_self, List.set_cons_zero, List.take_succ_eq_append_getElem h, List.append_assoc]
  rfl
theorem took_len (l : List UInt8) (k : Nat) (h : k ≤ l.length) (hk : k ≤ 32) : (took l k).length = 32 := by simp [took]; omega

theorem results_rows {P : Program} {fn : Func} {p q : Tmp} {ty ty' : TypeId} (h : fn.results = #[.cell p ty, .cell q ty']) (tmps : Array Value) (w : World) (g g' : Nat) (t t' : TypeId) (cs cs' : Array Value) (fr fr' : Nat × Nat) (d d' : TypeDesc)
    (hp : tmps.getD p undef = .pointer (some ⟨g, 0, none⟩)) (hg : w.heap[g]? = some (.cells cs t fr))
    (hq : tmps.getD q undef = .pointer (some ⟨g', 0, none⟩)) (hg' : w.heap[g']? = some (.cells cs' t' fr'))
    (hu : P.underlying ty = some d) (hd : (match d with | .struct _ | .array _ _ => true | _ => false) = true) (hi : (P.info? ty).map (·.size) = some cs.size)
    (hu' : P.underlying ty' = some d') (hd' : (match d' with | .struct _ | .array _ _ => true | _ => false) = true) (hi' : (P.info? ty').map (·.size) = some cs'.size) :
    (results fn tmps).run P w = .ok (.tuple #[.agg cs, .agg cs']) w := by
  have hp' : tmps[p]?.getD undef = .pointer (some ⟨g, 0, none⟩) := by simpa using hp
  have hq' : tmps[q]?.getD undef = .pointer (some ⟨g', 0, none⟩) := by simpa using hq
  simp only [results, h]
  simp [Result.andThen, hp', hq', asAddr, run_loadVar_row w g t ty cs fr d hg hu hd hi, run_loadVar_row w g' t' ty' cs' fr' d' hg' hu' hd' hi']

/-- What GetId comes to. -/
def GotId (l : List UInt8) (w : World) (e : Ending) (w' : World) : Prop :=
  Below w.heap.size w w' ∧ ((l.length < 32 ∧ e = .returned (.tuple #[.agg (bvs id0).toArray, .agg (inCells none 0 0 true)])) ∨
    ∃ a c, 32 ≤ l.length ∧ e = .returned (.tuple #[.agg (bvs (l.take 32)).toArray, .agg (inCells a (l.drop 32).length c false)]) ∧ InAt w' a c (l.drop 32))

set_option maxRecDepth 100000 in
set_option maxHeartbeats 2000000 in
theorem getid_short (a : Option Addr) (cap : Nat) (l : List UInt8) (f : Bool) (w : World) (hb : InAt w a cap l) (h32 : l.length < 32) :
    Calls Try.prog 63 #[.agg (inCells a l.length cap f)] w (GotId l w) := by
  obtain ⟨w2, hw2⟩ : ∃ w2, w2 = (((w.alloc (.cells (inCells a l.length cap f) 46)).alloc zarr).alloc (.cells (inCells none 0 0 false) 46)).alloc zarr := ⟨_, rfl⟩
  have hA : w2.heap[w.heap.size]? = some (.cells (inCells a l.length cap f) 46 (0, 0)) := by rw [hw2, heap_alloc_old _ _ (by simp <;> omega), heap_alloc_old _ _ (by simp <;> omega), heap_alloc_old _ _ (by simp), heap_alloc_eq _ _ _ rfl]
  have hZ : w2.heap[w.heap.size + 1]? = some (.cells lit32 29 (0, 0)) := by rw [hw2, heap_alloc_old _ _ (by simp <;> omega), heap_alloc_old _ _ (by simp), heap_alloc_eq _ _ _ (by simp)]; rfl
  have hI : w2.heap[w.heap.size + 2]? = some (.cells (inCells none 0 0 false) 46 (0, 0)) := by rw [hw2, heap_alloc_old _ _ (by simp), heap_alloc_eq _ _ _ (by simp)]
  have hO : w2.heap[w.heap.size + 3]? = some (.cells lit32 29 (0, 0)) := by rw [hw2, heap_alloc_eq _ _ _ (by simp)]; rfl
  have hb2 : Below w.heap.size w w2 := by rw [hw2]; exact ((((Below.refl _ w).alloc (Nat.le_refl _) _).alloc (by simp) _).alloc (by simp <;> omega) _).alloc (by simp <;> omega) _
  obtain ⟨w3, hw3⟩ : ∃ w3, w3 = w2.setRow (w.heap.size + 3) lit32 := ⟨_, rfl⟩
  have hA3 : w3.heap[w.heap.size]? = some (.cells (inCells a l.length cap f) 46 (0, 0)) := by rw [hw3, setRow_other _ _ _ _ (by omega)]; exact hA
  have hZ3 : w3.heap[w.heap.size + 1]? = some (.cells lit32 29 (0, 0)) := by rw [hw3, setRow_other _ _ _ _ (by omega)]; exact hZ
  have hI3 : w3.heap[w.heap.size + 2]? = some (.cells (inCells none 0 0 false) 46 (0, 0)) := by rw [hw3, setRow_other _ _ _ _ (by omega)]; exact hI
  have hO3 : w3.heap[w.heap.size + 3]? = some (.cells lit32 29 (0, 0)) := by rw [hw3]; exact setRow_heap w2 (w.heap.size + 3) _ lit32 _ _ hO
  have hb3 : Below w.heap.size w w3 := by rw [hw3]; exact below_setRow hb2 (by omega)
  rw [hw2] at hw3 hO
  have c0 : w3.cell? ⟨w.heap.size, 0, none⟩ = some (.slice a l.length cap) := cell_of_block hA3
  have c1 : w3.cell? ⟨w.heap.size, 1, none⟩ = some (.bool f) := cell_of_block hA3
  have hlt : ∀ w', Below w3.heap.size w3 w' → w'.heap[w.heap.size + 1]? = some (.cells lit32 29 (0, 0)) ∧ w'.heap[w.heap.size + 2]? = some (.cells (inCells none 0 0 false) 46 (0, 0)) ∧ w'.heap[w.heap.size + 3]? = some (.cells lit32 29 (0, 0)) := by
    intro w' h'
    rw [h'.block _ (lt_of_block hZ3), h'.block _ (lt_of_block hI3), h'.block _ (lt_of_block hO3)]
    exact ⟨hZ3, hI3, hO3⟩
  have hfl := fun w => calls_from' (Nat.le_refl _) (w0 := w3) failed_any w
  have hz32 : (bvs id0).toArray = lit32 := lit32_eq.symm
  have HO := Lib.hid hO
  have HL := Lib.hid hlt
  have HF := Lib.hid hfl
  have H32 := Lib.hid h32
  have HZ := Lib.hid hz32
  have h32' : (l.length : Int) < 32 := by omega
  have hbd := hb.2
  clear hA hZ hI hO hb2 hA3 hZ3 hI3 hO3 hw2 hlt hfl hb hz32 h32
  unfold GotId
  rw [HZ.out]
  go_enter Try.func63, Try.ntmps63
  go_wp2_with (refine wpList_store_row_then rfl 29 (.tmp 4) (.tmp 6) rfl (w.heap.size + 3) lit32 rfl rfl 29 lit32 HO.out sizeLitA rfl lit32_all ?_)
  refine Lib.hid ?_
  change wpList _ _ _ _ _ (((((w.alloc (.cells (inCells a l.length cap f) 46)).alloc zarr).alloc (.cells (inCells none 0 0 false) 46)).alloc zarr).setRow (w.heap.size + 3) lit32)
  rw [← hw3]
  clear hw3
  cases f
  all_goals
    go_wp2_with fail
    refine wp_region_quiet_tail (C := fun w' => Below w3.heap.size w3 w') 2 (by kernel_rfl) (by kernel_rfl) (by kernel_rfl) (by kernel_rfl) (Below.refl _ _).drew ?_
    simp only [List.take_succ_cons, List.take_zero, List.drop_succ_cons, List.drop_zero]
    repeat (first
      | go_big_quiet_skip
      | (go_big_quiet_want
         first
           | (refine quiet_load_row' 29 (.tmp 4) rfl (w.heap.size + 3) rfl 29 lit32 (0, 0) _ (fun w' h' => (HL.out w' h').2.2) Try.underlying29 rfl sizeLitA ?_
              simp only [Act.put, List.setIfInBounds_toArray, List.set_cons_zero, List.set_cons_succ]
              go_big_quiet_on)
           | (refine quiet_enter' _ _ _ ?_ HF.out ?_
              · intro w; go_simp
              simp only [Act.put, List.setIfInBounds_toArray, List.set_cons_zero, List.set_cons_succ]
              go_big_quiet_on)))
    refine wpQuiet_nil ?_
    intro w4 hb4
    obtain ⟨g1, g2, _⟩ := HL.out w4 hb4
    have hr1 := setRow_heap w4 (w.heap.size + 1) _ lit32 _ _ g1
    have g2' : (w4.setRow (w.heap.size + 1) lit32).heap[w.heap.size + 2]? = some (.cells (inCells none 0 0 false) 46 (0, 0)) := by rw [setRow_other _ _ _ _ (by omega)]; exact g2
    have hr2 := setRow_heap (w4.setRow (w.heap.size + 1) lit32) (w.heap.size + 2) _ (inCells none 0 0 true) _ _ g2'
    have hr1' : ((w4.setRow (w.heap.size + 1) lit32).setRow (w.heap.size + 2) (inCells none 0 0 true)).heap[w.heap.size + 1]? = _ := (setRow_other _ _ _ _ (by omega)).trans hr1
    have G1 := Lib.hid g1
    have G2 := Lib.hid g2'
    have HR1 := Lib.hid hr1'
    have HR2 := Lib.hid hr2
    clear g1 g2 g2' hr1 hr1' hr2
    go_wp2_with (first | (refine wpList_store_row rfl 29 (.tmp 2) (.tmp 15) rfl (w.heap.size + 1) lit32 rfl rfl 29 lit32 G1.out sizeLitA rfl lit32_all ?_) | (refine wpList_store_row rfl 46 (.tmp 3) (.tmp 16) rfl (w.heap.size + 2) (inCells none 0 0 true) rfl rfl 46 (inCells none 0 0 false) G2.out (sizeIn _ _ _ _) rfl (oneIn _ _ _ _) ?_))
    refine bodyPost_ret (v := .tuple #[.agg lit32, .agg (inCells none 0 0 true)]) (results_rows rfl _ _ (w.heap.size + 1) (w.heap.size + 2) 29 46 lit32 (inCells none 0 0 true) (0, 0) (0, 0) _ _ rfl HR1.out rfl HR2.out Try.underlying29 rfl sizeLitA Try.underlying46 rfl (sizeIn _ _ _ _)) rfl ?_
    have hb5 := hb3.trans (hb4.mono hb3.size)
    exact ⟨below_setRow (below_setRow hb5 (by omega)) (by omega), Or.inl ⟨H32.out, rfl⟩⟩

set_option maxRecDepth 100000 in
set_option maxHeartbeats 2000000 in
theorem getid_long (a : Option Addr) (cap : Nat) (l : List UInt8) (w : World) (hb : InAt w a cap l) (h32 : 32 ≤ l.length) :
    Calls Try.prog 63 #[.agg (inCells a l.length cap false)] w (GotId l w) := by
  obtain ⟨b, off, rfl⟩ := hb.1.addr (by omega)
  obtain ⟨n, hn⟩ : ∃ n, n = l.length := ⟨_, rfl⟩
  rw [← hn]
  obtain ⟨w2, hw2⟩ : ∃ w2, w2 = (((w.alloc (.cells (inCells (some ⟨b, off, none⟩) n cap false) 46)).alloc zarr).alloc (.cells (inCells none 0 0 false) 46)).alloc zarr := ⟨_, rfl⟩
  have hA : w2.heap[w.heap.size]? = some (.cells (inCells (some ⟨b, off, none⟩) n cap false) 46 (0, 0)) := by rw [hw2, heap_alloc_old _ _ (by simp <;> omega), heap_alloc_old _ _ (by simp <;> omega), heap_alloc_old _ _ (by simp), heap_alloc_eq _ _ _ rfl]
  have hZ : w2.heap[w.heap.size + 1]? = some (.cells lit32 29 (0, 0)) := by rw [hw2, heap_alloc_old _ _ (by simp <;> omega), heap_alloc_old _ _ (by simp), heap_alloc_eq _ _ _ (by simp)]; rfl
  have hI : w2.heap[w.heap.size + 2]? = some (.cells (inCells none 0 0 false) 46 (0, 0)) := by rw [hw2, heap_alloc_old _ _ (by simp), heap_alloc_eq _ _ _ (by simp)]
  have hO : w2.heap[w.heap.size + 3]? = some (.cells lit32 29 (0, 0)) := by rw [hw2, heap_alloc_eq _ _ _ (by simp)]; rfl
  have hb2 : Below w.heap.size w w2 := by rw [hw2]; exact ((((Below.refl _ w).alloc (Nat.le_refl _) _).alloc (by simp) _).alloc (by simp <;> omega) _).alloc (by simp <;> omega) _
  obtain ⟨w3, hw3⟩ : ∃ w3, w3 = w2.setRow (w.heap.size + 3) lit32 := ⟨_, rfl⟩
  have hA3 : w3.heap[w.heap.size]? = some (.cells (inCells (some ⟨b, off, none⟩) n cap false) 46 (0, 0)) := by rw [hw3, setRow_other _ _ _ _ (by omega)]; exact hA
  have hZ3 : w3.heap[w.heap.size + 1]? = some (.cells lit32 29 (0, 0)) := by rw [hw3, setRow_other _ _ _ _ (by omega)]; exact hZ
  have hI3 : w3.heap[w.heap.size + 2]? = some (.cells (inCells none 0 0 false) 46 (0, 0)) := by rw [hw3, setRow_other _ _ _ _ (by omega)]; exact hI
  have hO3 : w3.heap[w.heap.size + 3]? = some (.cells (bvs (took l 0)).toArray 29 (0, 0)) := by rw [hw3, took_zero, ← lit32_eq]; exact setRow_heap w2 (w.heap.size + 3) _ lit32 _ _ hO
  have hb3 : Below w.heap.size w w3 := by rw [hw3]; exact below_setRow hb2 (by omega)
  rw [hw2] at hw3 hO
  have c0 : w3.cell? ⟨w.heap.size, 0, none⟩ = some (.slice (some ⟨b, off, none⟩) n cap) := cell_of_block hA3
  have c1 : w3.cell? ⟨w.heap.size, 1, none⟩ = some (.bool false) := cell_of_block hA3
  have hbd : n ≤ cap ∧ cap ≤ 9223372036854775807 := by rw [hn]; exact hb.2
  have hn32 : 32 ≤ n := by omega
  have hn32' : ¬ ((n : Int) < 32) := by omega
  have hin := hb.later hb3
  have hs3 : w.heap.size + 3 < w3.heap.size := lt_of_block hO3
  have HO := Lib.hid hO
  have HA3 := Lib.hid hA3
  have HZ3 := Lib.hid hZ3
  have HI3 := Lib.hid hI3
  have HO3 := Lib.hid hO3
  have HIN := Lib.hid hin
  have HN := Lib.hid hn
  have HB := Lib.hid hb
  clear hA hZ hI hO hb2 hA3 hZ3 hI3 hO3 hw2 hb hin h32 hn
  unfold GotId
  go_enter Try.func63, Try.ntmps63
  go_wp2_with (refine wpList_store_row_then rfl 29 (.tmp 4) (.tmp 6) rfl (w.heap.size + 3) lit32 rfl rfl 29 lit32 HO.out sizeLitA rfl lit32_all ?_)
  refine Lib.hid ?_
  change wpList _ _ _ _ _ (((((w.alloc (.cells (inCells (some ⟨b, off, none⟩) n cap false) 46)).alloc zarr).alloc (.cells (inCells none 0 0 false) 46)).alloc zarr).setRow (w.heap.size + 3) lit32)
  rw [← hw3]
  clear hw3
  go_wp2_with fail
  go_loopw [5] (fun s5 wr => ∃ k : Nat, k ≤ 32 ∧ s5 = .int .i64 (k : Int) ∧ Hid (wr.heap[w.heap.size + 3]? = some (.cells (bvs (took l k)).toArray 29 (0, 0))) ∧ Below (w.heap.size + 3) w3 wr) (fun s5 _ => 32 - (intOf s5).toNat)
  case atStart => exact ⟨0, by omega, rfl, HO3, Below.refl _ _⟩
  case round =>
    obtain ⟨k, hk, rfl, HOk, hbr⟩ := hrel
    have hAr : wr.heap[w.heap.size]? = some (.cells (inCells (some ⟨b, off, none⟩) n cap false) 46 (0, 0)) := by rw [hbr.block _ (by omega)]; exact HA3.out
    have c0r : wr.cell? ⟨w.heap.size, 0, none⟩ = some (.slice (some ⟨b, off, none⟩) n cap) := cell_of_block hAr
    clear hAr c0 c1
    by_cases hlt : k < 32
    · have hkl : k < l.length := by rw [← HN.out]; omega
      obtain ⟨d, hd⟩ : ∃ d, d = l[k] := ⟨_, rfl⟩
      have hbw : Below w.heap.size w wr := hb3.trans (hbr.mono (by omega))
      have hc := (HB.out.later hbw).1.at k hkl
      rw [← hd] at hc
      have hst := took_step l k hkl hlt
      rw [← hd] at hst
      have HST := Lib.hid hst
      have hlen := took_len l k (by omega) (by omega)
      have hO := HOk.out
      obtain ⟨z, hz⟩ : ∃ z : UInt8, z = (took l k)[k]'(by omega) := ⟨_, rfl⟩
      have hcell : wr.cell? ⟨w.heap.size + 3, k, none⟩ = some (.int .u8 (z.toNat : Int)) := by
        rw [cell_of_block hO, hz]
        simpa using bvs_get (took l k) k (by omega)
      have hfr : ∀ j, wr.frozen? ⟨w.heap.size + 3, j, none⟩ = false := fun j => free_of_block hO
      have hk1 : (k : Int) < (n : Int) := by omega
      clear hd hst hlen hO hz
      go_wp2_with fail
      go_roundw
      case rel =>
        refine ⟨k + 1, by omega, by go_num, ?_, hbr.setCell (by show w.heap.size + 3 ≤ w.heap.size + 3; omega) _⟩
        have h2 := heap_setCell_same wr (w.heap.size + 3) k _ _ (.int .u8 (d.toNat : Int)) HOk.out
        refine Lib.hid (h2.trans ?_)
        rw [← HST.out]
        simp [bvs, bv, List.map_set]
      case measure => simp [intOf]; omega
    · obtain rfl : k = 32 := by omega
      obtain ⟨X, hX⟩ : ∃ X, X = (bvs (took l 32)).toArray := ⟨_, rfl⟩
      have hXe : X = (bvs (l.take 32)).toArray := by rw [hX, took_end]
      have hO := HOk.out
      rw [← hX] at hO
      have hXz : X.size = 32 := by rw [hX, List.size_toArray, bvs_length, took_len l 32 (by rw [← HN.out]; omega) (by omega)]
      have hXs : (Try.prog.info? 29).map (·.size) = some X.size := by rw [hXz]; exact sizeArr
      have hX1 : X.all (·.oneCell') = true := by rw [hX]; simpa using bvs_oneCell (took l 32)
      have hXl : lit32.size = X.size := by rw [hXz, lit32_size]
      have hZr : wr.heap[w.heap.size + 1]? = some (.cells lit32 29 (0, 0)) := by rw [hbr.block _ (by omega)]; exact HZ3.out
      have hIr : wr.heap[w.heap.size + 2]? = some (.cells (inCells none 0 0 false) 46 (0, 0)) := by rw [hbr.block _ (by omega)]; exact HI3.out
      have hltA : w.heap.size < wr.heap.size := by have := hbr.size; omega
      have hO4 : ∀ w', Below wr.heap.size wr w' → w'.heap[w.heap.size + 3]? = some (.cells X 29 (0, 0)) := fun w' h' => by rw [h'.block _ (lt_of_block hO)]; exact hO
      have hc4 : ∀ w', Below wr.heap.size wr w' → w'.cell? ⟨w.heap.size, 0, none⟩ = some (.slice (some ⟨b, off, none⟩) n cap) := fun w' h' => by rw [h'.cell (p := ⟨w.heap.size, 0, none⟩) hltA]; exact c0r
      have hbw : Below w.heap.size w wr := hb3.trans (hbr.mono (by omega))
      have i4 : (32 : Int) ≤ (n : Int) := by omega
      have i5 : (n : Int) ≤ (cap : Int) := by omega
      obtain ⟨XL, hXL⟩ : ∃ XL, XL = X.toList := ⟨_, rfl⟩
      have hXt : X = XL.toArray := by rw [hXL]
      have hLn : XL.length = 32 := by rw [hXL]; simpa using hXz
      have hu23 := Try.underlying29
      have hsz : (Try.prog.info? 29).map (·.size) = some XL.length := by rw [hLn]; exact sizeArr
      have hone : ∀ v ∈ XL, v.oneCell' = true := by rw [hXL]; intro v hv; exact Array.all_eq_true_iff_forall_mem.1 hX1 v (by simpa using hv)
      have hrg : wr.rangeAt (w.heap.size + 3) 0 XL := by
        intro j v hv
        rw [Nat.zero_add, cell_of_block hO, hXt]
        simpa using hv
      have hth : wr.there (w.heap.size + 1) 0 32 := by
        intro j hj
        rw [Nat.zero_add, cell_of_block hZr]
        exact ⟨by rw [Array.getElem?_eq_getElem (by rw [lit32_size]; exact hj)]; rfl, free_of_block hZr⟩
      have hI5 : (wr.drew.setCells (w.heap.size + 1) 0 XL).heap[w.heap.size + 2]? = some (.cells (inCells none 0 0 false) 46 (0, 0)) := by rw [setCells_other _ _ (by omega)]; exact hIr
      have hI6 := Lib.hid hI5
      have hkeep : (fun w' : World => w'.rangeAt (w.heap.size + 3) 0 XL ∧ w'.cell? ⟨w.heap.size, 0, none⟩ = some (.slice (some ⟨b, off, none⟩) n cap) ∧ w'.there (w.heap.size + 1) 0 32) (wr.drew.setCells (w.heap.size + 1) 0 XL) := by
        refine ⟨World.rangeAt_setCells_apart (by simpa using hrg) _ _ _ (.inl (by omega)), ?_, World.there_setCells (by simpa using hth) _ _ _⟩
        · rw [World.cell?_setCells_out _ _ _ _ _ (fun h => absurd h (by simp))]; exact c0r
      have r0 : (wr.drew.setCells (w.heap.size + 1) 0 XL).cell? ⟨w.heap.size + 1 + 1, 0, none⟩ = some (.slice none 0 0) := cell_of_block hI5
      have r1 : (wr.drew.setCells (w.heap.size + 1) 0 XL).cell? ⟨w.heap.size + 1 + 1, 1, none⟩ = some (.bool false) := cell_of_block hI5
      have r2 : (wr.drew.setCells (w.heap.size + 1) 0 XL).frozen? ⟨w.heap.size + 1 + 1, 0, none⟩ = false := free_of_block hI5
      have r3 : (wr.drew.setCells (w.heap.size + 1) 0 XL).frozen? ⟨w.heap.size + 1 + 1, 1, none⟩ = false := free_of_block hI5
      have hkeep2 : ∀ v v', (fun w' : World => w'.rangeAt (w.heap.size + 3) 0 XL ∧ w'.cell? ⟨w.heap.size, 0, none⟩ = some (.slice (some ⟨b, off, none⟩) n cap) ∧ w'.there (w.heap.size + 1) 0 32) (((wr.drew.setCells (w.heap.size + 1) 0 XL).setCell ⟨w.heap.size + 1 + 1, 0, none⟩ v).setCell ⟨w.heap.size + 1 + 1, 1, none⟩ v') := by
        intro v v'
        obtain ⟨k1, k2, k3⟩ := hkeep
        have hg := grownBy_trans (grownBy_setCell (wr.drew.setCells (w.heap.size + 1) 0 XL) (w.heap.size + 1 + 1) 0 v) (grownBy_setCell _ _ 1 v')
        refine ⟨fun j u hu => hg.cell (k1 j u hu) (by intro e; injection e with e; simp at e), hg.cell k2 (by intro e; injection e with e; simp at e; omega), fun j hj => ?_⟩
        obtain ⟨m1, m2⟩ := k3 j hj
        obtain ⟨u, hu⟩ := Option.isSome_iff_exists.1 m1
        exact ⟨by rw [hg.cell hu (by intro e; injection e with e; simp at e)]; rfl, by simpa [World.frozen?_setCell] using m2⟩
      have HK2 := Lib.hid hkeep2
      have HXT := Lib.hid hXt
      have HK := Lib.hid hkeep
      have HXE := Lib.hid hXe
      have HXS := Lib.hid hXs
      have HX1 := Lib.hid hX1
      have HXL := Lib.hid hXl
      have HZR := Lib.hid hZr
      have HIR := Lib.hid hIr
      have HO4 := Lib.hid hO4
      have HC4 := Lib.hid hc4
      clear hX hXe hO hXz hXs hX1 hXl hO4 hc4 hXL hXt hkeep hI5 hIr hZr hkeep2
      go_wp2_with fail
      go_region_held3 (fun w' => w'.rangeAt (w.heap.size + 3) 0 XL ∧ w'.cell? ⟨w.heap.size, 0, none⟩ = some (.slice (some ⟨b, off, none⟩) n cap) ∧ w'.there (w.heap.size + 1) 0 32) (first | (go_keep; done) | exact HK.out | exact HK2.out _ _) (fail)
      have hrl : l.length = n := HN.out.symm
      have hbt : InAt w (if cap = 32 then some ⟨b, off, none⟩ else some ⟨b, off + 32, none⟩) (cap - 32) (l.drop 32) := by
        refine ⟨?_, by rw [List.length_drop, hrl]; omega, by omega⟩
        by_cases hz : cap = 32
        · have : l.drop 32 = [] := List.drop_eq_nil_of_le (by omega)
          rw [this]
          exact BytesAt.nil _ _
        · rw [if_neg hz]
          exact BytesAt.drop' HB.out.1 32
      have HBT := Lib.hid hbt
      have HRL := Lib.hid hrl
      clear hbt hrl
      revert HBT
      generalize (if cap = 32 then (some ⟨b, off, none⟩ : Option Addr) else some ⟨b, off + 32, none⟩) = AA
      intro HBT
      have e1 := setCells_whole (w.heap.size + 1) 29 XL [] lit32.toList wr.drew (by rw [hLn]; rfl) HZR.out
      have e2 := heap_setCell_same _ (w.heap.size + 1 + 1) 0 _ _ (.slice AA (n - 32) (cap - 32)) hI6.out
      have e3 := heap_setCell_same _ (w.heap.size + 1 + 1) 1 _ _ (.bool false) e2
      have e4 : (((wr.drew.setCells (w.heap.size + 1) 0 XL).setCell ⟨w.heap.size + 1 + 1, 0, none⟩ (.slice AA (n - 32) (cap - 32))).setCell ⟨w.heap.size + 1 + 1, 1, none⟩ (.bool false)).heap[w.heap.size + 1]? = some (.cells XL.toArray 29 (0, 0)) := by
        rw [Below.heap_setCell _ _ _ _ (by show w.heap.size + 1 ≠ w.heap.size + 1 + 1; omega), Below.heap_setCell _ _ _ _ (by show w.heap.size + 1 ≠ w.heap.size + 1 + 1; omega)]
        exact e1
      have E3 := Lib.hid e3
      have E4 := Lib.hid e4
      have hXX : XL.toArray = (bvs (l.take 32)).toArray := by rw [← HXT.out]; exact HXE.out
      have HXX := Lib.hid hXX
      have hsz2 : (Try.prog.info? 29).map (·.size) = some XL.toArray.size := by rw [List.size_toArray, hLn]; exact sizeArr
      have HSZ := Lib.hid hsz2
      clear e1 e2 e3 e4 hXX hsz2 hsz r0 r1 r2 r3 hu23 hLn
      go_wp2_with fail
      refine bodyPost_ret (v := .tuple #[.agg XL.toArray, .agg (inCells AA (n - 32) (cap - 32) false)]) (results_rows rfl _ _ (w.heap.size + 1) (w.heap.size + 1 + 1) 29 46 XL.toArray (inCells AA (n - 32) (cap - 32) false) (0, 0) (0, 0) _ _ rfl E4.out rfl E3.out Try.underlying29 rfl HSZ.out Try.underlying46 rfl (sizeIn _ _ _ _)) rfl ?_
      have hbe : Below w.heap.size w (((wr.drew.setCells (w.heap.size + 1) 0 XL).setCell ⟨w.heap.size + 1 + 1, 0, none⟩ (.slice AA (n - 32) (cap - 32))).setCell ⟨w.heap.size + 1 + 1, 1, none⟩ (.bool false)) :=
        ((below_grownBy (Nat.le_refl _) hbw.drew (grownBy_setCells (w.heap.size + 1) XL 0 wr.drew) (by omega)).setCell (by show w.heap.size ≤ w.heap.size + 1 + 1; omega) _).setCell (by show w.heap.size ≤ w.heap.size + 1 + 1; omega) _
      refine ⟨hbe, Or.inr ⟨AA, cap - 32, by rw [HRL.out]; omega, ?_, HBT.out.later hbe⟩⟩
      rw [HXX.out, List.length_drop, HRL.out]

theorem getid_any (a : Option Addr) (cap : Nat) (l : List UInt8) (f : Bool) (w : World) (hb : InAt w a cap l) (hf : f = true → l = []) :
    Calls Try.prog 63 #[.agg (inCells a l.length cap f)] w (GotId l w) := by
  by_cases h : l.length < 32
  · exact getid_short a cap l f w hb h
  · cases f with
    | true => rw [hf rfl] at h; simp at h
    | false => exact getid_long a cap l w hb (by omega)
end Go.Proofs.Ytoaboehmjfnceaa

