/-
  The walk of the reference's Sum: a loop of it.
-/
import Derived.Test.YtkgclhkpncegnaaDoorRefLoops
import Derived.Test.YtkgclhkpncegnaaDoorPair
namespace Go.Proofs.YtkgclhkpncegnaaDoor
open Go.RowKit
set_option linter.unusedSimpArgs false
set_option linter.unusedVariables false

set_option maxRecDepth 1000000 in
set_option maxHeartbeats 4000000 in
theorem sum_loop3 (K : Act → World → Prop) (L blk : List UInt8) (m gL cL : Nat) (wA w' : World) (hmL : m + 64 ≤ L.length) (hmx : m < 100000) (hLs : L.length ≤ 20000) (hd1 : decide (m < L.length) = true) (hd2 : decide ((m : Int) < (L.length : Int)) = true) (HBY : Hid (∀ i, i < 64 → wA.cell? ⟨gL, m + i, none⟩ = some (.int .u8 ((blk.getD i 0).toNat : Int)))) (u0 u1 u2 u3 u4 u6 u7 u9 u11 u12 u13 u14 u15 u16 u17 u18 u19 u20 u21 u22 u23 u24 u25 u26 u27 u28 u29 u30 u31 u32 u33 u34 u35 u36 u37 u38 u39 u40 u41 u42 u43 u44 u45 u46 u47 u48 u49 u50 u51 u52 u53 u54 u55 u56 u57 u58 u59 u60 u61 u62 u63 u64 u65 u66 u67 u68 u69 u70 u71 u72 u73 u74 u75 u76 u77 u78 u79 u80 u81 u82 u83 u84 u85 u86 u87 u88 u89 u90 u91 u92 u93 u94 u95 u96 u97 u98 u99 u100 u101 u102 u103 u104 u105 u106 u107 u108 u109 u110 u111 u112 u113 u114 u115 u116 u117 u118 u119 u120 u121 u122 u123 u124 u125 u126 u127 u128 u129 u130 u131 u132 u133 u134 u135 u136 u137 u138 u139 u140 u141 u142 u143 u144 u145 u146 u147 u148 u149 u150 u151 u152 u153 u154 u155 u156 u157 u158 u159 u160 u161 u162 u163 u164 u165 u166 u167 u168 u169 u170 u171 u172 u173 u174 u175 u176 u177 u178 u179 u180 u181 u182 u183 u184 u185 u186 u187 u188 u189 u190 u191 u192 u193 u194 u195 u196 u197 u198 u199 u200 u201 u202 u203 u204 u205 u206 u207 u208 u209 u210 u211 u212 u213 u214 u215 u216 u217 u218 u219 u220 u221 u222 u223 u224 u225 u226 u227 u228 u229 u230 u231 u232 u233 u234 u235 u236 u237 u238 u239 u240 u241 u242 u243 u244 u245 u246 u247 u248 u249 u250 u251 u252 u253 u254 u255 u256 u257 u258 u259 u260 u261 u262 u263 u264 u265 u266 u267 u268 u269 u270 u271 u272 u273 u274 u275 u276 u277 u278 u279 u280 u281 u282 u283 u284 u285 u286 u287 u288 u289 u290 u291 u292 u293 u294 u295 u296 u297 u298 u299 u300 u301 u302 : Value) (HO0 : Hid (w'.ownsRow wA.heap.size 45 1 u9 0 (wl (sch blk) 0))) (HE0 : Hid (Below wA.heap.size wA w'))
    (hexit : ∀ (v9 v10 v11 v50 v51 v52 v53 v54 v55 v56 v57 v58 v59 v60 v61 v62 v63 v64 v65 v66 v67 v68 v69 v70 v71 v72 v73 v74 v75 v76 v77 v78 v79 v80 v81 v82 v83 v84 v85 v86 v87 v88 v89 : Value) (wx : World), wx.ownsRow wA.heap.size 45 1 v9 16 (wl (sch blk) 16) → Below wA.heap.size wA wx → K ⟨List.toArray (u0 :: u1 :: u2 :: u3 :: u4 :: (.slice (some ⟨gL, 0, none⟩) L.length cL) :: u6 :: u7 :: (.int .i64 (m : Int)) :: v9 :: v10 :: v11 :: u12 :: u13 :: u14 :: u15 :: u16 :: u17 :: u18 :: u19 :: u20 :: u21 :: u22 :: u23 :: u24 :: u25 :: u26 :: u27 :: u28 :: u29 :: u30 :: u31 :: u32 :: u33 :: u34 :: u35 :: u36 :: u37 :: u38 :: u39 :: u40 :: u41 :: u42 :: u43 :: u44 :: u45 :: u46 :: u47 :: u48 :: u49 :: v50 :: v51 :: v52 :: v53 :: v54 :: v55 :: v56 :: v57 :: v58 :: v59 :: v60 :: v61 :: v62 :: v63 :: v64 :: v65 :: v66 :: v67 :: v68 :: v69 :: v70 :: v71 :: v72 :: v73 :: v74 :: v75 :: v76 :: v77 :: v78 :: v79 :: v80 :: v81 :: v82 :: v83 :: v84 :: v85 :: v86 :: v87 :: v88 :: v89 :: u90 :: u91 :: u92 :: u93 :: u94 :: u95 :: u96 :: u97 :: u98 :: u99 :: u100 :: u101 :: u102 :: u103 :: u104 :: u105 :: u106 :: u107 :: u108 :: u109 :: u110 :: u111 :: u112 :: u113 :: u114 :: u115 :: u116 :: u117 :: u118 :: u119 :: u120 :: u121 :: u122 :: u123 :: u124 :: u125 :: u126 :: u127 :: u128 :: u129 :: u130 :: u131 :: u132 :: u133 :: u134 :: u135 :: u136 :: u137 :: u138 :: u139 :: u140 :: u141 :: u142 :: u143 :: u144 :: u145 :: u146 :: u147 :: u148 :: u149 :: u150 :: u151 :: u152 :: u153 :: u154 :: u155 :: u156 :: u157 :: u158 :: u159 :: u160 :: u161 :: u162 :: u163 :: u164 :: u165 :: u166 :: u167 :: u168 :: u169 :: u170 :: u171 :: u172 :: u173 :: u174 :: u175 :: u176 :: u177 :: u178 :: u179 :: u180 :: u181 :: u182 :: u183 :: u184 :: u185 :: u186 :: u187 :: u188 :: u189 :: u190 :: u191 :: u192 :: u193 :: u194 :: u195 :: u196 :: u197 :: u198 :: u199 :: u200 :: u201 :: u202 :: u203 :: u204 :: u205 :: u206 :: u207 :: u208 :: u209 :: u210 :: u211 :: u212 :: u213 :: u214 :: u215 :: u216 :: u217 :: u218 :: u219 :: u220 :: u221 :: u222 :: u223 :: u224 :: u225 :: u226 :: u227 :: u228 :: u229 :: u230 :: u231 :: u232 :: u233 :: u234 :: u235 :: u236 :: u237 :: u238 :: u239 :: u240 :: u241 :: u242 :: u243 :: u244 :: u245 :: u246 :: u247 :: u248 :: u249 :: u250 :: u251 :: u252 :: u253 :: u254 :: u255 :: u256 :: u257 :: u258 :: u259 :: u260 :: u261 :: u262 :: u263 :: u264 :: u265 :: u266 :: u267 :: u268 :: u269 :: u270 :: u271 :: u272 :: u273 :: u274 :: u275 :: u276 :: u277 :: u278 :: u279 :: u280 :: u281 :: u282 :: u283 :: u284 :: u285 :: u286 :: u287 :: u288 :: u289 :: u290 :: u291 :: u292 :: u293 :: u294 :: u295 :: u296 :: u297 :: u298 :: u299 :: u300 :: u301 :: u302 :: []), []⟩ wx) :
    Code.wp Tryd.prog (Code.loop (sumLoop 2)) (Exit.inBlock 4 (Exit.then K (fun _ _ _ => False))) ⟨List.toArray (u0 :: u1 :: u2 :: u3 :: u4 :: (.slice (some ⟨gL, 0, none⟩) L.length cL) :: u6 :: u7 :: (.int .i64 (m : Int)) :: u9 :: (.int .i64 0) :: u11 :: u12 :: u13 :: u14 :: u15 :: u16 :: u17 :: u18 :: u19 :: u20 :: u21 :: u22 :: u23 :: u24 :: u25 :: u26 :: u27 :: u28 :: u29 :: u30 :: u31 :: u32 :: u33 :: u34 :: u35 :: u36 :: u37 :: u38 :: u39 :: u40 :: u41 :: u42 :: u43 :: u44 :: u45 :: u46 :: u47 :: u48 :: u49 :: u50 :: u51 :: u52 :: u53 :: u54 :: u55 :: u56 :: u57 :: u58 :: u59 :: u60 :: u61 :: u62 :: u63 :: u64 :: u65 :: u66 :: u67 :: u68 :: u69 :: u70 :: u71 :: u72 :: u73 :: u74 :: u75 :: u76 :: u77 :: u78 :: u79 :: u80 :: u81 :: u82 :: u83 :: u84 :: u85 :: u86 :: u87 :: u88 :: u89 :: u90 :: u91 :: u92 :: u93 :: u94 :: u95 :: u96 :: u97 :: u98 :: u99 :: u100 :: u101 :: u102 :: u103 :: u104 :: u105 :: u106 :: u107 :: u108 :: u109 :: u110 :: u111 :: u112 :: u113 :: u114 :: u115 :: u116 :: u117 :: u118 :: u119 :: u120 :: u121 :: u122 :: u123 :: u124 :: u125 :: u126 :: u127 :: u128 :: u129 :: u130 :: u131 :: u132 :: u133 :: u134 :: u135 :: u136 :: u137 :: u138 :: u139 :: u140 :: u141 :: u142 :: u143 :: u144 :: u145 :: u146 :: u147 :: u148 :: u149 :: u150 :: u151 :: u152 :: u153 :: u154 :: u155 :: u156 :: u157 :: u158 :: u159 :: u160 :: u161 :: u162 :: u163 :: u164 :: u165 :: u166 :: u167 :: u168 :: u169 :: u170 :: u171 :: u172 :: u173 :: u174 :: u175 :: u176 :: u177 :: u178 :: u179 :: u180 :: u181 :: u182 :: u183 :: u184 :: u185 :: u186 :: u187 :: u188 :: u189 :: u190 :: u191 :: u192 :: u193 :: u194 :: u195 :: u196 :: u197 :: u198 :: u199 :: u200 :: u201 :: u202 :: u203 :: u204 :: u205 :: u206 :: u207 :: u208 :: u209 :: u210 :: u211 :: u212 :: u213 :: u214 :: u215 :: u216 :: u217 :: u218 :: u219 :: u220 :: u221 :: u222 :: u223 :: u224 :: u225 :: u226 :: u227 :: u228 :: u229 :: u230 :: u231 :: u232 :: u233 :: u234 :: u235 :: u236 :: u237 :: u238 :: u239 :: u240 :: u241 :: u242 :: u243 :: u244 :: u245 :: u246 :: u247 :: u248 :: u249 :: u250 :: u251 :: u252 :: u253 :: u254 :: u255 :: u256 :: u257 :: u258 :: u259 :: u260 :: u261 :: u262 :: u263 :: u264 :: u265 :: u266 :: u267 :: u268 :: u269 :: u270 :: u271 :: u272 :: u273 :: u274 :: u275 :: u276 :: u277 :: u278 :: u279 :: u280 :: u281 :: u282 :: u283 :: u284 :: u285 :: u286 :: u287 :: u288 :: u289 :: u290 :: u291 :: u292 :: u293 :: u294 :: u295 :: u296 :: u297 :: u298 :: u299 :: u300 :: u301 :: u302 :: []), []⟩ w' := by
  obtain ⟨i0, hi, hz0, hz1, hz2⟩ := info_parts infoW
  conv => arg 2; arg 1; whnf
  go_loopw [9, 10, 11] (fun s9 s10 _ wx => ∃ k : Nat, k ≤ 16 ∧ s10 = .int .i64 (k : Int) ∧ wx.ownsRow wA.heap.size 45 1 s9 k (wl (sch blk) k) ∧ Below wA.heap.size wA wx) (fun _ s10 _ _ => 16 - (intOf s10).toNat)
  case atStart => exact ⟨0, Nat.zero_le _, rfl, HO0.out, HE0.out⟩
  case round =>
    obtain ⟨k, hk, rfl, howr, hbr⟩ := hrel
    have hsz := hbr.size
    by_cases hlt3 : k < 16
    · clear hexit
      obtain ⟨q, hq⟩ : ∃ q : Nat, q = m + 4 * k := ⟨_, rfl⟩
      have hq2 : (m : Int) + 4 * (k : Int) = (q : Int) := by rw [hq]; omega
      obtain ⟨x0, hx0⟩ : ∃ x, x = blk.getD (4 * k) 0 := ⟨_, rfl⟩
      obtain ⟨x1, hx1⟩ : ∃ x, x = blk.getD (4 * k + 1) 0 := ⟨_, rfl⟩
      obtain ⟨x2, hx2⟩ : ∃ x, x = blk.getD (4 * k + 2) 0 := ⟨_, rfl⟩
      obtain ⟨x3, hx3⟩ : ∃ x, x = blk.getD (4 * k + 3) 0 := ⟨_, rfl⟩
      have c0 : ∀ W, Below wA.heap.size wA W → W.cell? ⟨gL, q, none⟩ = some (.int .u8 (x0.toNat : Int)) := fun W h => by rw [hx0, hq]; exact cell_later h (HBY.out (4 * k) (by omega))
      have c1 : ∀ W, Below wA.heap.size wA W → W.cell? ⟨gL, q + 1, none⟩ = some (.int .u8 (x1.toNat : Int)) := fun W h => by rw [hx1, hq]; exact cell_later h (HBY.out (4 * k + 1) (by omega))
      have c2 : ∀ W, Below wA.heap.size wA W → W.cell? ⟨gL, q + 2, none⟩ = some (.int .u8 (x2.toNat : Int)) := fun W h => by rw [hx2, hq]; exact cell_later h (HBY.out (4 * k + 2) (by omega))
      have c3 : ∀ W, Below wA.heap.size wA W → W.cell? ⟨gL, q + 3, none⟩ = some (.int .u8 (x3.toNat : Int)) := fun W h => by rw [hx3, hq]; exact cell_later h (HBY.out (4 * k + 3) (by omega))
      have hword : sch blk k = wordB x0 x1 x2 x3 := by rw [sch_low _ _ hlt3, hx0, hx1, hx2, hx3]; rfl
      have hqL : q + 3 < L.length := by omega
      have hq9 : q < 100000 := by omega
      have hqs := word_plus x0 x1 x2 x3
      have y0 := x0.toNat_lt
      have y1 := x1.toNat_lt
      have y2 := x2.toNat_lt
      have y3 := x3.toNat_lt
      have HC0 := Lib.hid c0
      have HC1 := Lib.hid c1
      have HC2 := Lib.hid c2
      have HC3 := Lib.hid c3
      have HWD := Lib.hid hword
      have HQS := Lib.hid hqs
      clear c0 c1 c2 c3 hword hqs hx0 hx1 hx2 hx3 hq
      go_upto_region 15 with (fail)
      refine wp_region_sched (fun W => Below wA.heap.size wA W) [([0, 1, 2, 3, 4, 5, 6, 7, 8, 9, 10, 11, 12, 13, 14, 15, 16, 17, 18, 19, 20, 21, 22, 23, 24, 25, 26, 27, 28, 29], 30), ([], 31)] [32] (by kernel_rfl) (by kernel_rfl) (fun _ _ d _ _ h => by cases d <;> exact h) (by kernel_rfl) (of_decide_eq_true (by kernel_rfl)) hbr.drew ?_
      refine wpSched_cons ?_
      dsimp only [opsAt, List.filterMap, List.getElem?_cons_zero, List.getElem?_cons_succ]
      repeat (first
        | go_big_quiet_skip
        | (go_big_quiet_want
           first
             | (refine quiet_load_cell 5 (.tmp 61) rfl ⟨gL, q, none⟩ rfl (.int .u8 (x0.toNat : Int)) _ HC0.out Tryd.underlying5 rfl ?_
                simp only [Act.put, List.setIfInBounds_toArray, List.set_cons_zero, List.set_cons_succ]
                go_big_quiet_on)
             | (refine quiet_load_cell 5 (.tmp 68) rfl ⟨gL, q + 1, none⟩ rfl (.int .u8 (x1.toNat : Int)) _ HC1.out Tryd.underlying5 rfl ?_
                simp only [Act.put, List.setIfInBounds_toArray, List.set_cons_zero, List.set_cons_succ]
                go_big_quiet_on)
             | (refine quiet_load_cell 5 (.tmp 76) rfl ⟨gL, q + 2, none⟩ rfl (.int .u8 (x2.toNat : Int)) _ HC2.out Tryd.underlying5 rfl ?_
                simp only [Act.put, List.setIfInBounds_toArray, List.set_cons_zero, List.set_cons_succ]
                go_big_quiet_on)
             | (refine quiet_load_cell 5 (.tmp 84) rfl ⟨gL, q + 3, none⟩ rfl (.int .u8 (x3.toNat : Int)) _ HC3.out Tryd.underlying5 rfl ?_
                simp only [Act.put, List.setIfInBounds_toArray, List.set_cons_zero, List.set_cons_succ]
                go_big_quiet_on)
             | (go_big_quiet_op
                first | refine ⟨_, fun _ _ => rfl, ?_⟩ | refine ⟨_, fun _ _ _ => rfl, ?_⟩ | refine ⟨_, fun _ _ _ _ => rfl, ?_⟩
                go_big_quiet_on)
             | (go_big_quiet_op
                go_big_quiet_on)))
      refine wpQuiet_nil ?_
      intro KK hKK
      go_simp
      rw [HQS.out]
      refine hKK _ ((wr.alloc (.cells #[.int .u32 ((wordB x0 x1 x2 x3).toNat : Int)] 45)).drew) (hbr.alloc hsz _).drew ?_
      clear hKK KK
      try simp only [Act.put, List.setIfInBounds_toArray, List.set_cons_zero, List.set_cons_succ]
      refine wpSched_cons ?_
      dsimp only [opsAt, List.filterMap, List.getElem?_cons_zero, List.getElem?_cons_succ]
      repeat (first
        | go_big_quiet_skip
        | (go_big_quiet_want
           first
             | (go_big_quiet_op
                first | refine ⟨_, fun _ _ => rfl, ?_⟩ | refine ⟨_, fun _ _ _ => rfl, ?_⟩ | refine ⟨_, fun _ _ _ _ => rfl, ?_⟩
                go_big_quiet_on)
             | (go_big_quiet_op
                go_big_quiet_on)))
      refine wpQuiet_nil ?_
      intro KK hKK
      refine step_append_own rfl (.tmp 58) (.tmp 88) 24 rfl wA.heap.size 45 i0 (.int .u32 0) 1 4 Tryd.underlying24 hi hz0 hz1 hz2 rfl (by decide) _ k _ rfl (howr.alloc _) ⟨wr.heap.size, 0, none⟩ 1 1 [.int .u32 ((wordB x0 x1 x2 x3).toNat : Int)] rfl rfl (cell_one_new _ _ _) (vw_one _) (by unfold maxLen; omega) (by omega) (by simp; omega) ?_
      intro v' w3 hown' hgr' _
      have hb3 := (hbr.alloc hsz (.cells #[.int .u32 ((wordB x0 x1 x2 x3).toNat : Int)] 45)).drew.grown hgr' (by simp; omega) (fun k hk => (howr.lt k hk).1)
      refine hKK _ _ hb3 ?_
      clear hKK KK hgr'
      try simp only [Act.put, List.setIfInBounds_toArray, List.set_cons_zero, List.set_cons_succ]
      refine wpSched_nil ?_
      dsimp only [opsAt, List.filterMap, List.getElem?_cons_zero, List.getElem?_cons_succ]
      repeat (first
        | go_big_quiet_skip
        | (go_big_quiet_want
           first
             | (go_big_quiet_op
                first | refine ⟨_, fun _ _ => rfl, ?_⟩ | refine ⟨_, fun _ _ _ => rfl, ?_⟩ | refine ⟨_, fun _ _ _ _ => rfl, ?_⟩
                go_big_quiet_on)
             | (go_big_quiet_op
                go_big_quiet_on)))
      refine wpQuiet_nil ?_
      go_wp2
      go_roundw
      case rel => exact ⟨k + 1, by omega, by go_num, ownsRow_cast hown' rfl (by rw [wl_succ, HWD.out]; rfl), hb3⟩
      case measure => simp [intOf]; omega
    · have hk16 : k = 16 := by omega
      have howr16 := howr
      rw [hk16] at howr16
      clear howr
      go_wp2_with fail
      exact hexit _ _ _ _ _ _ _ _ _ _ _ _ _ _ _ _ _ _ _ _ _ _ _ _ _ _ _ _ _ _ _ _ _ _ _ _ _ _ _ _ _ _ _ _ howr16 hbr
end Go.Proofs.YtkgclhkpncegnaaDoor
