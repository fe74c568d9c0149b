/-
  The walk of the reference's Sum: a loop of it.
-/
import Derived.Test.YtkgclhkpncegnaaDoorRefLoops
import Derived.Test.YtkgclhkpncegnaaDoorPair
namespace Go.Proofs.YtkgclhkpncegnaaDoor
open Go.RowKit
set_option linter.unusedSimpArgs false
set_option linter.unusedVariables false

set_option maxRecDepth 1000000 in
set_option maxHeartbeats 4000000 in
theorem sum_loop4 (K : Act → World → Prop) (blk : List UInt8) (wA w' : World) (u0 u1 u2 u3 u4 u5 u6 u7 u8 u9 u10 u11 u13 u14 u15 u16 u17 u18 u19 u20 u21 u22 u23 u24 u25 u26 u27 u28 u29 u30 u31 u32 u33 u34 u35 u36 u37 u38 u39 u40 u41 u42 u43 u44 u45 u46 u47 u48 u49 u50 u51 u52 u53 u54 u55 u56 u57 u58 u59 u60 u61 u62 u63 u64 u65 u66 u67 u68 u69 u70 u71 u72 u73 u74 u75 u76 u77 u78 u79 u80 u81 u82 u83 u84 u85 u86 u87 u88 u89 u90 u91 u92 u93 u94 u95 u96 u97 u98 u99 u100 u101 u102 u103 u104 u105 u106 u107 u108 u109 u110 u111 u112 u113 u114 u115 u116 u117 u118 u119 u120 u121 u122 u123 u124 u125 u126 u127 u128 u129 u130 u131 u132 u133 u134 u135 u136 u137 u138 u139 u140 u141 u142 u143 u144 u145 u146 u147 u148 u149 u150 u151 u152 u153 u154 u155 u156 u157 u158 u159 u160 u161 u162 u163 u164 u165 u166 u167 u168 u169 u170 u171 u172 u173 u174 u175 u176 u177 u178 u179 u180 u181 u182 u183 u184 u185 u186 u187 u188 u189 u190 u191 u192 u193 u194 u195 u196 u197 u198 u199 u200 u201 u202 u203 u204 u205 u206 u207 u208 u209 u210 u211 u212 u213 u214 u215 u216 u217 u218 u219 u220 u221 u222 u223 u224 u225 u226 u227 u228 u229 u230 u231 u232 u233 u234 u235 u236 u237 u238 u239 u240 u241 u242 u243 u244 u245 u246 u247 u248 u249 u250 u251 u252 u253 u254 u255 u256 u257 u258 u259 u260 u261 u262 u263 u264 u265 u266 u267 u268 u269 u270 u271 u272 u273 u274 u275 u276 u277 u278 u279 u280 u281 u282 u283 u284 u285 u286 u287 u288 u289 u290 u291 u292 u293 u294 u295 u296 u297 u298 u299 u300 u301 u302 : Value) (HO1 : Hid (w'.ownsRow wA.heap.size 45 1 u9 16 (wl (sch blk) 16))) (HE1 : Hid (Below wA.heap.size wA w'))
    (hexit : ∀ (v9 v12 v13 v14 v90 v91 v92 v93 v94 v95 v96 v97 v98 v99 v100 v101 v102 v103 v104 v105 v106 v107 v108 v109 v110 v111 v112 v113 v114 v115 v116 v117 v118 v119 v120 v121 v122 v123 v124 v125 v126 v127 v128 v129 v130 v131 v132 v133 v134 v135 v136 v137 v138 v139 v140 v141 v142 v143 v144 v145 v146 v147 v148 v149 v150 v151 : Value) (wx : World), wx.ownsRow wA.heap.size 45 1 v9 64 (wl (sch blk) 64) → Below wA.heap.size wA wx → K ⟨List.toArray (u0 :: u1 :: u2 :: u3 :: u4 :: u5 :: u6 :: u7 :: u8 :: v9 :: u10 :: u11 :: v12 :: v13 :: v14 :: u15 :: u16 :: u17 :: u18 :: u19 :: u20 :: u21 :: u22 :: u23 :: u24 :: u25 :: u26 :: u27 :: u28 :: u29 :: u30 :: u31 :: u32 :: u33 :: u34 :: u35 :: u36 :: u37 :: u38 :: u39 :: u40 :: u41 :: u42 :: u43 :: u44 :: u45 :: u46 :: u47 :: u48 :: u49 :: u50 :: u51 :: u52 :: u53 :: u54 :: u55 :: u56 :: u57 :: u58 :: u59 :: u60 :: u61 :: u62 :: u63 :: u64 :: u65 :: u66 :: u67 :: u68 :: u69 :: u70 :: u71 :: u72 :: u73 :: u74 :: u75 :: u76 :: u77 :: u78 :: u79 :: u80 :: u81 :: u82 :: u83 :: u84 :: u85 :: u86 :: u87 :: u88 :: u89 :: v90 :: v91 :: v92 :: v93 :: v94 :: v95 :: v96 :: v97 :: v98 :: v99 :: v100 :: v101 :: v102 :: v103 :: v104 :: v105 :: v106 :: v107 :: v108 :: v109 :: v110 :: v111 :: v112 :: v113 :: v114 :: v115 :: v116 :: v117 :: v118 :: v119 :: v120 :: v121 :: v122 :: v123 :: v124 :: v125 :: v126 :: v127 :: v128 :: v129 :: v130 :: v131 :: v132 :: v133 :: v134 :: v135 :: v136 :: v137 :: v138 :: v139 :: v140 :: v141 :: v142 :: v143 :: v144 :: v145 :: v146 :: v147 :: v148 :: v149 :: v150 :: v151 :: u152 :: u153 :: u154 :: u155 :: u156 :: u157 :: u158 :: u159 :: u160 :: u161 :: u162 :: u163 :: u164 :: u165 :: u166 :: u167 :: u168 :: u169 :: u170 :: u171 :: u172 :: u173 :: u174 :: u175 :: u176 :: u177 :: u178 :: u179 :: u180 :: u181 :: u182 :: u183 :: u184 :: u185 :: u186 :: u187 :: u188 :: u189 :: u190 :: u191 :: u192 :: u193 :: u194 :: u195 :: u196 :: u197 :: u198 :: u199 :: u200 :: u201 :: u202 :: u203 :: u204 :: u205 :: u206 :: u207 :: u208 :: u209 :: u210 :: u211 :: u212 :: u213 :: u214 :: u215 :: u216 :: u217 :: u218 :: u219 :: u220 :: u221 :: u222 :: u223 :: u224 :: u225 :: u226 :: u227 :: u228 :: u229 :: u230 :: u231 :: u232 :: u233 :: u234 :: u235 :: u236 :: u237 :: u238 :: u239 :: u240 :: u241 :: u242 :: u243 :: u244 :: u245 :: u246 :: u247 :: u248 :: u249 :: u250 :: u251 :: u252 :: u253 :: u254 :: u255 :: u256 :: u257 :: u258 :: u259 :: u260 :: u261 :: u262 :: u263 :: u264 :: u265 :: u266 :: u267 :: u268 :: u269 :: u270 :: u271 :: u272 :: u273 :: u274 :: u275 :: u276 :: u277 :: u278 :: u279 :: u280 :: u281 :: u282 :: u283 :: u284 :: u285 :: u286 :: u287 :: u288 :: u289 :: u290 :: u291 :: u292 :: u293 :: u294 :: u295 :: u296 :: u297 :: u298 :: u299 :: u300 :: u301 :: u302 :: []), []⟩ wx) :
    Code.wp Tryd.prog (Code.loop (sumLoop 3)) (Exit.inBlock 6 (Exit.then K (fun _ _ _ => False))) ⟨List.toArray (u0 :: u1 :: u2 :: u3 :: u4 :: u5 :: u6 :: u7 :: u8 :: u9 :: u10 :: u11 :: (.int .i64 16) :: u13 :: u14 :: u15 :: u16 :: u17 :: u18 :: u19 :: u20 :: u21 :: u22 :: u23 :: u24 :: u25 :: u26 :: u27 :: u28 :: u29 :: u30 :: u31 :: u32 :: u33 :: u34 :: u35 :: u36 :: u37 :: u38 :: u39 :: u40 :: u41 :: u42 :: u43 :: u44 :: u45 :: u46 :: u47 :: u48 :: u49 :: u50 :: u51 :: u52 :: u53 :: u54 :: u55 :: u56 :: u57 :: u58 :: u59 :: u60 :: u61 :: u62 :: u63 :: u64 :: u65 :: u66 :: u67 :: u68 :: u69 :: u70 :: u71 :: u72 :: u73 :: u74 :: u75 :: u76 :: u77 :: u78 :: u79 :: u80 :: u81 :: u82 :: u83 :: u84 :: u85 :: u86 :: u87 :: u88 :: u89 :: u90 :: u91 :: u92 :: u93 :: u94 :: u95 :: u96 :: u97 :: u98 :: u99 :: u100 :: u101 :: u102 :: u103 :: u104 :: u105 :: u106 :: u107 :: u108 :: u109 :: u110 :: u111 :: u112 :: u113 :: u114 :: u115 :: u116 :: u117 :: u118 :: u119 :: u120 :: u121 :: u122 :: u123 :: u124 :: u125 :: u126 :: u127 :: u128 :: u129 :: u130 :: u131 :: u132 :: u133 :: u134 :: u135 :: u136 :: u137 :: u138 :: u139 :: u140 :: u141 :: u142 :: u143 :: u144 :: u145 :: u146 :: u147 :: u148 :: u149 :: u150 :: u151 :: u152 :: u153 :: u154 :: u155 :: u156 :: u157 :: u158 :: u159 :: u160 :: u161 :: u162 :: u163 :: u164 :: u165 :: u166 :: u167 :: u168 :: u169 :: u170 :: u171 :: u172 :: u173 :: u174 :: u175 :: u176 :: u177 :: u178 :: u179 :: u180 :: u181 :: u182 :: u183 :: u184 :: u185 :: u186 :: u187 :: u188 :: u189 :: u190 :: u191 :: u192 :: u193 :: u194 :: u195 :: u196 :: u197 :: u198 :: u199 :: u200 :: u201 :: u202 :: u203 :: u204 :: u205 :: u206 :: u207 :: u208 :: u209 :: u210 :: u211 :: u212 :: u213 :: u214 :: u215 :: u216 :: u217 :: u218 :: u219 :: u220 :: u221 :: u222 :: u223 :: u224 :: u225 :: u226 :: u227 :: u228 :: u229 :: u230 :: u231 :: u232 :: u233 :: u234 :: u235 :: u236 :: u237 :: u238 :: u239 :: u240 :: u241 :: u242 :: u243 :: u244 :: u245 :: u246 :: u247 :: u248 :: u249 :: u250 :: u251 :: u252 :: u253 :: u254 :: u255 :: u256 :: u257 :: u258 :: u259 :: u260 :: u261 :: u262 :: u263 :: u264 :: u265 :: u266 :: u267 :: u268 :: u269 :: u270 :: u271 :: u272 :: u273 :: u274 :: u275 :: u276 :: u277 :: u278 :: u279 :: u280 :: u281 :: u282 :: u283 :: u284 :: u285 :: u286 :: u287 :: u288 :: u289 :: u290 :: u291 :: u292 :: u293 :: u294 :: u295 :: u296 :: u297 :: u298 :: u299 :: u300 :: u301 :: u302 :: []), []⟩ w' := by
  obtain ⟨i0, hi, hz0, hz1, hz2⟩ := info_parts infoW
  conv => arg 2; arg 1; whnf
  go_loopw [9, 12, 13, 14] (fun s9 s12 _ _ wx => ∃ k : Nat, 16 ≤ k ∧ k ≤ 64 ∧ s12 = .int .i64 (k : Int) ∧ wx.ownsRow wA.heap.size 45 1 s9 k (wl (sch blk) k) ∧ Below wA.heap.size wA wx) (fun _ s12 _ _ _ => 64 - (intOf s12).toNat)
  case atStart => exact ⟨16, by omega, by omega, rfl, HO1.out, HE1.out⟩
  case round =>
    clear HO1 HE1
    obtain ⟨k, hk16, hk, rfl, howr, hbr⟩ := hrel
    by_cases hlt4 : k < 64
    · clear hexit
      obtain ⟨gw, cw, rfl⟩ := own_slice howr (by omega)
      have hW := WordsAt.row howr
      obtain ⟨p15, h15⟩ : ∃ p, p = k - 15 := ⟨_, rfl⟩
      obtain ⟨p2, h2⟩ : ∃ p, p = k - 2 := ⟨_, rfl⟩
      obtain ⟨p7, h7⟩ : ∃ p, p = k - 7 := ⟨_, rfl⟩
      obtain ⟨p16, h16⟩ : ∃ p, p = k - 16 := ⟨_, rfl⟩
      have e15 : (k : Int) - 15 = (p15 : Int) := by omega
      have e2 : (k : Int) - 2 = (p2 : Int) := by omega
      have e7 : (k : Int) - 7 = (p7 : Int) := by omega
      have e16 : (k : Int) - 16 = (p16 : Int) := by omega
      have b15 : p15 < k := by omega
      have b2 : p2 < k := by omega
      have b7 : p7 < k := by omega
      have b16 : p16 < k := by omega
      obtain ⟨X15, x15⟩ : ∃ x, x = sch blk p15 := ⟨_, rfl⟩
      obtain ⟨X2, x2⟩ : ∃ x, x = sch blk p2 := ⟨_, rfl⟩
      obtain ⟨X7, x7⟩ : ∃ x, x = sch blk p7 := ⟨_, rfl⟩
      obtain ⟨X16, x16⟩ : ∃ x, x = sch blk p16 := ⟨_, rfl⟩
      have c15 : ∀ W, Below wr.heap.size wr W → W.cell? ⟨gw, p15, none⟩ = some (.int .u32 (X15.toNat : Int)) := fun W h => by rw [x15]; exact cell_later h (hW p15 b15)
      have c2 : ∀ W, Below wr.heap.size wr W → W.cell? ⟨gw, p2, none⟩ = some (.int .u32 (X2.toNat : Int)) := fun W h => by rw [x2]; exact cell_later h (hW p2 b2)
      have c7 : ∀ W, Below wr.heap.size wr W → W.cell? ⟨gw, p7, none⟩ = some (.int .u32 (X7.toNat : Int)) := fun W h => by rw [x7]; exact cell_later h (hW p7 b7)
      have c16 : ∀ W, Below wr.heap.size wr W → W.cell? ⟨gw, p16, none⟩ = some (.int .u32 (X16.toNat : Int)) := fun W h => by rw [x16]; exact cell_later h (hW p16 b16)
      have hwd : sch blk k = shiftB X2 17 19 10 + X7 + shiftB X15 7 18 3 + X16 := by
        have h1 := sch_high blk p16
        rw [show p16 + 16 = k by omega, show p16 + 14 = p2 by omega, show p16 + 9 = p7 by omega, show p16 + 1 = p15 by omega, ← x15, ← x2, ← x7, ← x16] at h1
        exact h1
      have hr := fun (x : BitVec 32) (q : Nat) (h0 : 0 < q) (h1 : q < 32) W => calls_from' (Nat.le_refl _) (w0 := wr) (fun w1 => (right_any x q h0 h1 w1).mono fun _ _ h => ⟨h.1, h.2 ▸ Below.refl _ _⟩) W
      have r1 := hr X15 7 (by decide) (by decide)
      have r2 := hr X15 18 (by decide) (by decide)
      have r3 := hr X2 17 (by decide) (by decide)
      have r4 := hr X2 19 (by decide) (by decide)
      unfold vw at r1 r2 r3 r4
      have s0 : bits .xor .u32 (bits .xor .u32 ((rr X15 7).toNat : Int) ((rr X15 18).toNat : Int)) ((X15.toNat : Int) / 8) = ((shiftB X15 7 18 3).toNat : Int) := by
        have := shr_word X15 3
        rw [show (2 : Int) ^ 3 = 8 from rfl] at this
        rw [this, b32_xor, b32_xor]; rfl
      have s1 : bits .xor .u32 (bits .xor .u32 ((rr X2 17).toNat : Int) ((rr X2 19).toNat : Int)) ((X2.toNat : Int) / 1024) = ((shiftB X2 17 19 10).toNat : Int) := by
        have := shr_word X2 10
        rw [show (2 : Int) ^ 10 = 1024 from rfl] at this
        rw [this, b32_xor, b32_xor]; rfl
      obtain ⟨S0, hS0⟩ : ∃ x, x = shiftB X15 7 18 3 := ⟨_, rfl⟩
      obtain ⟨S1, hS1⟩ : ∃ x, x = shiftB X2 17 19 10 := ⟨_, rfl⟩
      rw [← hS0] at s0 hwd
      rw [← hS1] at s1 hwd
      have l15 := X15.isLt
      have l2 := X2.isLt
      have hsum := sum_words S1 X7 S0 X16
      have C15 := Lib.hid c15
      have C2 := Lib.hid c2
      have C7 := Lib.hid c7
      have C16 := Lib.hid c16
      have HWD := Lib.hid hwd
      have R1 := Lib.hid r1
      have R2 := Lib.hid r2
      have R3 := Lib.hid r3
      have R4 := Lib.hid r4
      have HSM := Lib.hid hsum
      have HOR := Lib.hid howr
      clear c15 c2 c7 c16 hwd hr r1 r2 r3 r4 hsum hW howr x15 x2 x7 x16 h15 h2 h7 h16 hS0 hS1
      go_upto_region 19 with (fail)
      refine wp_region_below' (w0 := wr) (B := wr.heap.size) (by kernel_rfl) (by kernel_rfl) (Below.refl _ _) ?_
      repeat (first
        | go_big_quiet_skip
        | (go_big_quiet_want
           first
             | (refine quiet_load_cell 45 (.tmp 97) rfl ⟨gw, p15, none⟩ rfl (.int .u32 (X15.toNat : Int)) _ C15.out Tryd.underlying45 rfl ?_
                simp only [Act.put, List.setIfInBounds_toArray, List.set_cons_zero, List.set_cons_succ]
                go_big_quiet_on)
             | (refine quiet_load_cell 45 (.tmp 103) rfl ⟨gw, p15, none⟩ rfl (.int .u32 (X15.toNat : Int)) _ C15.out Tryd.underlying45 rfl ?_
                simp only [Act.put, List.setIfInBounds_toArray, List.set_cons_zero, List.set_cons_succ]
                go_big_quiet_on)
             | (refine quiet_load_cell 45 (.tmp 110) rfl ⟨gw, p15, none⟩ rfl (.int .u32 (X15.toNat : Int)) _ C15.out Tryd.underlying45 rfl ?_
                simp only [Act.put, List.setIfInBounds_toArray, List.set_cons_zero, List.set_cons_succ]
                go_big_quiet_on)
             | (refine quiet_enter' _ _ _ ?_ R1.out ?_
                · intro w; go_simp
                simp only [Act.put, List.setIfInBounds_toArray, List.set_cons_zero, List.set_cons_succ]
                go_big_quiet_on)
             | (refine quiet_enter' _ _ _ ?_ R2.out ?_
                · intro w; go_simp
                simp only [Act.put, List.setIfInBounds_toArray, List.set_cons_zero, List.set_cons_succ]
                go_big_quiet_on)
             | (go_big_quiet_op
                first | refine ⟨_, fun _ _ => rfl, ?_⟩ | refine ⟨_, fun _ _ _ => rfl, ?_⟩ | refine ⟨_, fun _ _ _ _ => rfl, ?_⟩
                go_big_quiet_on)
             | (go_big_quiet_op
                go_big_quiet_on)))
      refine wpQuiet_nil ?_
      intro w5 hb5
      try rw [s0]
      clear s0
      go_upto_region 20 with (fail)
      refine wp_region_below' (w0 := wr) (B := wr.heap.size) (by kernel_rfl) (by kernel_rfl) hb5 ?_
      repeat (first
        | go_big_quiet_skip
        | (go_big_quiet_want
           first
             | (refine quiet_load_cell 45 (.tmp 117) rfl ⟨gw, p2, none⟩ rfl (.int .u32 (X2.toNat : Int)) _ C2.out Tryd.underlying45 rfl ?_
                simp only [Act.put, List.setIfInBounds_toArray, List.set_cons_zero, List.set_cons_succ]
                go_big_quiet_on)
             | (refine quiet_load_cell 45 (.tmp 123) rfl ⟨gw, p2, none⟩ rfl (.int .u32 (X2.toNat : Int)) _ C2.out Tryd.underlying45 rfl ?_
                simp only [Act.put, List.setIfInBounds_toArray, List.set_cons_zero, List.set_cons_succ]
                go_big_quiet_on)
             | (refine quiet_load_cell 45 (.tmp 130) rfl ⟨gw, p2, none⟩ rfl (.int .u32 (X2.toNat : Int)) _ C2.out Tryd.underlying45 rfl ?_
                simp only [Act.put, List.setIfInBounds_toArray, List.set_cons_zero, List.set_cons_succ]
                go_big_quiet_on)
             | (refine quiet_enter' _ _ _ ?_ R3.out ?_
                · intro w; go_simp
                simp only [Act.put, List.setIfInBounds_toArray, List.set_cons_zero, List.set_cons_succ]
                go_big_quiet_on)
             | (refine quiet_enter' _ _ _ ?_ R4.out ?_
                · intro w; go_simp
                simp only [Act.put, List.setIfInBounds_toArray, List.set_cons_zero, List.set_cons_succ]
                go_big_quiet_on)
             | (go_big_quiet_op
                first | refine ⟨_, fun _ _ => rfl, ?_⟩ | refine ⟨_, fun _ _ _ => rfl, ?_⟩ | refine ⟨_, fun _ _ _ _ => rfl, ?_⟩
                go_big_quiet_on)
             | (go_big_quiet_op
                go_big_quiet_on)))
      refine wpQuiet_nil ?_
      intro w6 hb6
      try rw [s1]
      clear s1
      go_upto_region 21 with (fail)
      have hs6 : Below wA.heap.size wA w6 := hbr.trans (hb6.mono hbr.size)
      have d7 := C7.out w6 hb6
      have d16 := C16.out w6 hb6
      have ho6 : w6.ownsRow wA.heap.size 45 1 (.slice (some ⟨gw, 0, none⟩) k cw) k (wl (sch blk) k) := ownsRow_below HOR.out hb6
      have HO6 := Lib.hid ho6
      have hz6 := hs6.size
      have q7 : IntKind.i64.wrap (p7 : Int) = (p7 : Int) := IntWalk.i64_in _ (by omega)
      have q16 : IntKind.i64.wrap (p16 : Int) = (p16 : Int) := IntWalk.i64_in _ (by omega)
      have t1 := wrap_add S1 X7
      have t2 := wrap_add (S1 + X7) S0
      have t3 := wrap_add (S1 + X7 + S0) X16
      obtain ⟨T1, hT1⟩ : ∃ x, x = S1 + X7 := ⟨_, rfl⟩
      obtain ⟨T2, hT2⟩ : ∃ x, x = T1 + S0 := ⟨_, rfl⟩
      obtain ⟨T3, hT3⟩ : ∃ x, x = T2 + X16 := ⟨_, rfl⟩
      have hT : sch blk k = T3 := by rw [HWD.out, hT3, hT2, hT1]
      rw [← hT1, ← hT2] at t3
      rw [← hT3] at t3
      rw [← hT1, ← hT2] at t2
      rw [← hT1] at t1
      have HT := Lib.hid hT
      clear C15 C2 C7 C16 R1 R2 R3 R4 ho6 hT hT1 hT2 hT3
      go_region_law (refine step_append_own rfl (.tmp 134) (.tmp 150) 24 rfl wA.heap.size 45 i0 (.int .u32 0) 1 4 Tryd.underlying24 hi hz0 hz1 hz2 rfl (by decide) _ k _ rfl (World.ownsRow.drew (HO6.out.alloc (.cells #[.int .u32 (T3.toNat : Int)] 45))) ⟨w6.heap.size, 0, none⟩ 1 1 [.int .u32 (T3.toNat : Int)] rfl rfl (cell_one_new w6 _ _) (vw_one _) (by unfold maxLen; omega) (by omega) (by simp; omega) ?_; intro v' w7 hown' hgr' _)
      all_goals
        have hb7 := (hs6.alloc hs6.size (.cells #[.int .u32 (T3.toNat : Int)] 45)).drew.grown hgr' (by simp; have := hs6.size; omega) (fun k hk => (HO6.out.lt k hk).1)
        clear hgr'
        go_wp2
        go_roundw
      all_goals first
        | exact ⟨k + 1, by omega, by omega, by go_num, ownsRow_cast hown' rfl (by rw [wl_succ, HT.out]; rfl), hb7⟩
        | (simp [intOf]; omega)
    · have hk64 : k = 64 := by omega
      have howr64 := howr
      rw [hk64] at howr64
      clear howr
      go_wp2_with fail
      exact hexit _ _ _ _ _ _ _ _ _ _ _ _ _ _ _ _ _ _ _ _ _ _ _ _ _ _ _ _ _ _ _ _ _ _ _ _ _ _ _ _ _ _ _ _ _ _ _ _ _ _ _ _ _ _ _ _ _ _ _ _ _ _ _ _ _ _ _ howr64 hbr
end Go.Proofs.YtkgclhkpncegnaaDoor
