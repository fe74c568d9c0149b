/-
  The walk of the reference's Sum: a loop of it.
-/
import Derived.Test.YtkgclhkpncegnaaDoorRefLoops
import Derived.Test.YtkgclhkpncegnaaDoorPair
namespace Go.Proofs.YtkgclhkpncegnaaDoor
open Go.RowKit
set_option linter.unusedSimpArgs false
set_option linter.unusedVariables false

set_option maxRecDepth 1000000 in
set_option maxHeartbeats 4000000 in
theorem sum_loop5 (K : Act → World → Prop) (blk : List UInt8) (H : St) (tb br cr gw cw : Nat) (wB w' : World) (HT1 : Hid (wB.cell? ⟨tb, 1, none⟩ = some (.slice (some ⟨br, 0, none⟩) 64 cr))) (HR : Hid (WordsAt wB br keyAt 64)) (HW : Hid (WordsAt wB gw (sch blk) 64)) (hcr : 64 ≤ cr) (u0 u1 u3 u4 u5 u6 u7 u8 u10 u11 u12 u13 u14 u24 u25 u26 u27 u28 u29 u30 u31 u32 u33 u34 u35 u36 u37 u38 u39 u40 u41 u42 u43 u44 u45 u46 u47 u48 u49 u50 u51 u52 u53 u54 u55 u56 u57 u58 u59 u60 u61 u62 u63 u64 u65 u66 u67 u68 u69 u70 u71 u72 u73 u74 u75 u76 u77 u78 u79 u80 u81 u82 u83 u84 u85 u86 u87 u88 u89 u90 u91 u92 u93 u94 u95 u96 u97 u98 u99 u100 u101 u102 u103 u104 u105 u106 u107 u108 u109 u110 u111 u112 u113 u114 u115 u116 u117 u118 u119 u120 u121 u122 u123 u124 u125 u126 u127 u128 u129 u130 u131 u132 u133 u134 u135 u136 u137 u138 u139 u140 u141 u142 u143 u144 u145 u146 u147 u148 u149 u150 u151 u152 u153 u154 u155 u156 u157 u158 u159 u160 u161 u162 u163 u164 u165 u166 u167 u168 u169 u170 u171 u172 u173 u174 u175 u176 u177 u178 u179 u180 u181 u182 u183 u184 u185 u186 u187 u188 u189 u190 u191 u192 u193 u194 u195 u196 u197 u198 u199 u200 u201 u202 u203 u204 u205 u206 u207 u208 u209 u210 u211 u212 u213 u214 u215 u216 u217 u218 u219 u220 u221 u222 u223 u224 u225 u226 u227 u228 u229 u230 u231 u232 u233 u234 u235 u236 u237 u238 u239 u240 u241 u242 u243 u244 u245 u246 u247 u248 u249 u250 u251 u252 u253 u254 u255 u256 u257 u258 u259 u260 u261 u262 u263 u264 u265 u266 u267 u268 u269 u270 u271 u272 u273 u274 u275 u276 u277 u278 u279 u280 u281 u282 u283 u284 u285 u286 u287 u288 u289 u290 u291 u292 u293 u294 u295 u296 u297 u298 u299 u300 u301 u302 : Value) (HB8 : Hid (Below wB.heap.size wB w'))
    (hexit : ∀ (S : St) (v23 v24 v25 v176 v177 v178 v179 v180 v181 v182 v183 v184 v185 v186 v187 v188 v189 v190 v191 v192 v193 v194 v195 v196 v197 v198 v199 v200 v201 v202 v203 v204 v205 v206 v207 v208 v209 v210 v211 v212 v213 v214 v215 v216 v217 v218 v219 v220 v221 v222 v223 v224 v225 v226 v227 v228 v229 v230 v231 v232 v233 v234 v235 v236 v237 v238 v239 v240 v241 : Value) (wx : World), S = roundsS blk H 64 → Below wB.heap.size wB wx → K ⟨List.toArray (u0 :: u1 :: (.pointer (some ⟨tb, 0, none⟩)) :: u3 :: u4 :: u5 :: u6 :: u7 :: u8 :: (.slice (some ⟨gw, 0, none⟩) 64 cw) :: u10 :: u11 :: u12 :: u13 :: u14 :: (.int .u32 (S.a.toNat : Int)) :: (.int .u32 (S.b.toNat : Int)) :: (.int .u32 (S.c.toNat : Int)) :: (.int .u32 (S.d.toNat : Int)) :: (.int .u32 (S.e.toNat : Int)) :: (.int .u32 (S.f.toNat : Int)) :: (.int .u32 (S.g.toNat : Int)) :: (.int .u32 (S.h.toNat : Int)) :: v23 :: v24 :: v25 :: u26 :: u27 :: u28 :: u29 :: u30 :: u31 :: u32 :: u33 :: u34 :: u35 :: u36 :: u37 :: u38 :: u39 :: u40 :: u41 :: u42 :: u43 :: u44 :: u45 :: u46 :: u47 :: u48 :: u49 :: u50 :: u51 :: u52 :: u53 :: u54 :: u55 :: u56 :: u57 :: u58 :: u59 :: u60 :: u61 :: u62 :: u63 :: u64 :: u65 :: u66 :: u67 :: u68 :: u69 :: u70 :: u71 :: u72 :: u73 :: u74 :: u75 :: u76 :: u77 :: u78 :: u79 :: u80 :: u81 :: u82 :: u83 :: u84 :: u85 :: u86 :: u87 :: u88 :: u89 :: u90 :: u91 :: u92 :: u93 :: u94 :: u95 :: u96 :: u97 :: u98 :: u99 :: u100 :: u101 :: u102 :: u103 :: u104 :: u105 :: u106 :: u107 :: u108 :: u109 :: u110 :: u111 :: u112 :: u113 :: u114 :: u115 :: u116 :: u117 :: u118 :: u119 :: u120 :: u121 :: u122 :: u123 :: u124 :: u125 :: u126 :: u127 :: u128 :: u129 :: u130 :: u131 :: u132 :: u133 :: u134 :: u135 :: u136 :: u137 :: u138 :: u139 :: u140 :: u141 :: u142 :: u143 :: u144 :: u145 :: u146 :: u147 :: u148 :: u149 :: u150 :: u151 :: u152 :: u153 :: u154 :: u155 :: u156 :: u157 :: u158 :: u159 :: u160 :: u161 :: u162 :: u163 :: u164 :: u165 :: u166 :: u167 :: u168 :: u169 :: u170 :: u171 :: u172 :: u173 :: u174 :: u175 :: v176 :: v177 :: v178 :: v179 :: v180 :: v181 :: v182 :: v183 :: v184 :: v185 :: v186 :: v187 :: v188 :: v189 :: v190 :: v191 :: v192 :: v193 :: v194 :: v195 :: v196 :: v197 :: v198 :: v199 :: v200 :: v201 :: v202 :: v203 :: v204 :: v205 :: v206 :: v207 :: v208 :: v209 :: v210 :: v211 :: v212 :: v213 :: v214 :: v215 :: v216 :: v217 :: v218 :: v219 :: v220 :: v221 :: v222 :: v223 :: v224 :: v225 :: v226 :: v227 :: v228 :: v229 :: v230 :: v231 :: v232 :: v233 :: v234 :: v235 :: v236 :: v237 :: v238 :: v239 :: v240 :: v241 :: u242 :: u243 :: u244 :: u245 :: u246 :: u247 :: u248 :: u249 :: u250 :: u251 :: u252 :: u253 :: u254 :: u255 :: u256 :: u257 :: u258 :: u259 :: u260 :: u261 :: u262 :: u263 :: u264 :: u265 :: u266 :: u267 :: u268 :: u269 :: u270 :: u271 :: u272 :: u273 :: u274 :: u275 :: u276 :: u277 :: u278 :: u279 :: u280 :: u281 :: u282 :: u283 :: u284 :: u285 :: u286 :: u287 :: u288 :: u289 :: u290 :: u291 :: u292 :: u293 :: u294 :: u295 :: u296 :: u297 :: u298 :: u299 :: u300 :: u301 :: u302 :: []), []⟩ wx) :
    Code.wp Tryd.prog (Code.loop (sumLoop 4)) (Exit.inBlock 8 (Exit.then K (fun _ _ _ => False))) ⟨List.toArray (u0 :: u1 :: (.pointer (some ⟨tb, 0, none⟩)) :: u3 :: u4 :: u5 :: u6 :: u7 :: u8 :: (.slice (some ⟨gw, 0, none⟩) 64 cw) :: u10 :: u11 :: u12 :: u13 :: u14 :: (.int .u32 (H.a.toNat : Int)) :: (.int .u32 (H.b.toNat : Int)) :: (.int .u32 (H.c.toNat : Int)) :: (.int .u32 (H.d.toNat : Int)) :: (.int .u32 (H.e.toNat : Int)) :: (.int .u32 (H.f.toNat : Int)) :: (.int .u32 (H.g.toNat : Int)) :: (.int .u32 (H.h.toNat : Int)) :: (.int .i64 0) :: u24 :: u25 :: u26 :: u27 :: u28 :: u29 :: u30 :: u31 :: u32 :: u33 :: u34 :: u35 :: u36 :: u37 :: u38 :: u39 :: u40 :: u41 :: u42 :: u43 :: u44 :: u45 :: u46 :: u47 :: u48 :: u49 :: u50 :: u51 :: u52 :: u53 :: u54 :: u55 :: u56 :: u57 :: u58 :: u59 :: u60 :: u61 :: u62 :: u63 :: u64 :: u65 :: u66 :: u67 :: u68 :: u69 :: u70 :: u71 :: u72 :: u73 :: u74 :: u75 :: u76 :: u77 :: u78 :: u79 :: u80 :: u81 :: u82 :: u83 :: u84 :: u85 :: u86 :: u87 :: u88 :: u89 :: u90 :: u91 :: u92 :: u93 :: u94 :: u95 :: u96 :: u97 :: u98 :: u99 :: u100 :: u101 :: u102 :: u103 :: u104 :: u105 :: u106 :: u107 :: u108 :: u109 :: u110 :: u111 :: u112 :: u113 :: u114 :: u115 :: u116 :: u117 :: u118 :: u119 :: u120 :: u121 :: u122 :: u123 :: u124 :: u125 :: u126 :: u127 :: u128 :: u129 :: u130 :: u131 :: u132 :: u133 :: u134 :: u135 :: u136 :: u137 :: u138 :: u139 :: u140 :: u141 :: u142 :: u143 :: u144 :: u145 :: u146 :: u147 :: u148 :: u149 :: u150 :: u151 :: u152 :: u153 :: u154 :: u155 :: u156 :: u157 :: u158 :: u159 :: u160 :: u161 :: u162 :: u163 :: u164 :: u165 :: u166 :: u167 :: u168 :: u169 :: u170 :: u171 :: u172 :: u173 :: u174 :: u175 :: u176 :: u177 :: u178 :: u179 :: u180 :: u181 :: u182 :: u183 :: u184 :: u185 :: u186 :: u187 :: u188 :: u189 :: u190 :: u191 :: u192 :: u193 :: u194 :: u195 :: u196 :: u197 :: u198 :: u199 :: u200 :: u201 :: u202 :: u203 :: u204 :: u205 :: u206 :: u207 :: u208 :: u209 :: u210 :: u211 :: u212 :: u213 :: u214 :: u215 :: u216 :: u217 :: u218 :: u219 :: u220 :: u221 :: u222 :: u223 :: u224 :: u225 :: u226 :: u227 :: u228 :: u229 :: u230 :: u231 :: u232 :: u233 :: u234 :: u235 :: u236 :: u237 :: u238 :: u239 :: u240 :: u241 :: u242 :: u243 :: u244 :: u245 :: u246 :: u247 :: u248 :: u249 :: u250 :: u251 :: u252 :: u253 :: u254 :: u255 :: u256 :: u257 :: u258 :: u259 :: u260 :: u261 :: u262 :: u263 :: u264 :: u265 :: u266 :: u267 :: u268 :: u269 :: u270 :: u271 :: u272 :: u273 :: u274 :: u275 :: u276 :: u277 :: u278 :: u279 :: u280 :: u281 :: u282 :: u283 :: u284 :: u285 :: u286 :: u287 :: u288 :: u289 :: u290 :: u291 :: u292 :: u293 :: u294 :: u295 :: u296 :: u297 :: u298 :: u299 :: u300 :: u301 :: u302 :: []), []⟩ w' := by
  obtain ⟨i0, hi, hz0, hz1, hz2⟩ := info_parts infoW
  conv => arg 2; arg 1; whnf
  go_loopw [15, 16, 17, 18, 19, 20, 21, 22, 23, 24, 25] (fun s15 s16 s17 s18 s19 s20 s21 s22 s23 _ _ wx => ∃ (k : Nat) (S : St), k ≤ 64 ∧ S = roundsS blk H k ∧ s23 = .int .i64 (k : Int) ∧ s15 = .int .u32 (S.a.toNat : Int) ∧ s16 = .int .u32 (S.b.toNat : Int) ∧ s17 = .int .u32 (S.c.toNat : Int) ∧ s18 = .int .u32 (S.d.toNat : Int) ∧ s19 = .int .u32 (S.e.toNat : Int) ∧ s20 = .int .u32 (S.f.toNat : Int) ∧ s21 = .int .u32 (S.g.toNat : Int) ∧ s22 = .int .u32 (S.h.toNat : Int) ∧ Below wB.heap.size wB wx) (fun _ _ _ _ _ _ _ _ s23 _ _ _ => 64 - (intOf s23).toNat)
  case atStart => exact ⟨0, H, by omega, rfl, rfl, rfl, rfl, rfl, rfl, rfl, rfl, rfl, rfl, HB8.out⟩
  case round =>
    obtain ⟨k, S, hk, hS, rfl, rfl, rfl, rfl, rfl, rfl, rfl, rfl, rfl, hbr⟩ := hrel
    by_cases hlt5 : k < 64
    · clear hexit
      obtain ⟨Sa, Sb, Sc, Sd, Se, Sf, Sg, Sh⟩ := S
      dsimp only
      obtain ⟨KK, hKK⟩ : ∃ x, x = keyAt k := ⟨_, rfl⟩
      obtain ⟨VV, hVV⟩ : ∃ x, x = sch blk k := ⟨_, rfl⟩
      have ck : ∀ W, Below wB.heap.size wB W → W.cell? ⟨br, k, none⟩ = some (.int .u32 (KK.toNat : Int)) := fun W h => by rw [hKK]; exact cell_later h (HR.out k hlt5)
      have cv : ∀ W, Below wB.heap.size wB W → W.cell? ⟨gw, k, none⟩ = some (.int .u32 (VV.toNat : Int)) := fun W h => by rw [hVV]; exact cell_later h (HW.out k hlt5)
      have ct : ∀ W, Below wB.heap.size wB W → W.cell? ⟨tb, 1, none⟩ = some (.slice (some ⟨br, 0, none⟩) 64 cr) := fun W h => cell_later h HT1.out
      have hr := fun (x : BitVec 32) (q : Nat) (h0 : 0 < q) (h1 : q < 32) W => calls_from' (Nat.le_refl _) (w0 := wB) (fun w1 => (right_any x q h0 h1 w1).mono fun _ _ h => ⟨h.1, h.2 ▸ Below.refl _ _⟩) W
      have r1 := hr Se 6 (by decide) (by decide)
      have r2 := hr Se 11 (by decide) (by decide)
      have r3 := hr Se 25 (by decide) (by decide)
      have a1 := right_any Sa 2 (by decide) (by decide)
      have a2 := right_any Sa 13 (by decide) (by decide)
      have a3 := right_any Sa 22 (by decide) (by decide)
      unfold vw at r1 r2 r3 a1 a2 a3
      obtain ⟨E6, hE6⟩ : ∃ x, x = rr Se 6 := ⟨_, rfl⟩
      obtain ⟨E11, hE11⟩ : ∃ x, x = rr Se 11 := ⟨_, rfl⟩
      obtain ⟨E25, hE25⟩ : ∃ x, x = rr Se 25 := ⟨_, rfl⟩
      obtain ⟨F2, hF2⟩ : ∃ x, x = rr Sa 2 := ⟨_, rfl⟩
      obtain ⟨F13, hF13⟩ : ∃ x, x = rr Sa 13 := ⟨_, rfl⟩
      obtain ⟨F22, hF22⟩ : ∃ x, x = rr Sa 22 := ⟨_, rfl⟩
      rw [← hE6] at r1
      rw [← hE11] at r2
      rw [← hE25] at r3
      rw [← hF2] at a1
      have a1' : ∀ W, Calls Tryd.prog 26 #[.int .u32 (Sa.toNat : Int), .int .u64 2] W fun e w' => e = .returned (.int .u32 (F2.toNat : Int)) ∧ w' = W := a1
      rw [← hF13] at a2
      have a2' : ∀ W, Calls Tryd.prog 26 #[.int .u32 (Sa.toNat : Int), .int .u64 13] W fun e w' => e = .returned (.int .u32 (F13.toNat : Int)) ∧ w' = W := a2
      rw [← hF22] at a3
      have a3' : ∀ W, Calls Tryd.prog 26 #[.int .u32 (Sa.toNat : Int), .int .u64 22] W fun e w' => e = .returned (.int .u32 (F22.toNat : Int)) ∧ w' = W := a3
      obtain ⟨U1, hU1⟩ : ∃ x : BitVec 32, x = E6 ^^^ E11 := ⟨_, rfl⟩
      have eU1 : bits .xor .u32 (E6.toNat : Int) (E11.toNat : Int) = (U1.toNat : Int) := by rw [hU1]; exact b32_xor _ _
      obtain ⟨U2, hU2⟩ : ∃ x : BitVec 32, x = U1 ^^^ E25 := ⟨_, rfl⟩
      have eU2 : bits .xor .u32 (U1.toNat : Int) (E25.toNat : Int) = (U2.toNat : Int) := by rw [hU2]; exact b32_xor _ _
      obtain ⟨M1, hM1⟩ : ∃ x : BitVec 32, x = Se &&& Sf := ⟨_, rfl⟩
      have eM1 : bits .and .u32 (Se.toNat : Int) (Sf.toNat : Int) = (M1.toNat : Int) := by rw [hM1]; exact b32_and _ _
      obtain ⟨NE, hNE⟩ : ∃ x : BitVec 32, x = ~~~Se := ⟨_, rfl⟩
      have eNE : bits .xor .u32 (if IntKind.u32.signed = true then -1 else IntKind.u32.max) (Se.toNat : Int) = (NE.toNat : Int) := by rw [hNE]; exact not_word _
      obtain ⟨M2, hM2⟩ : ∃ x : BitVec 32, x = NE &&& Sg := ⟨_, rfl⟩
      have eM2 : bits .and .u32 (NE.toNat : Int) (Sg.toNat : Int) = (M2.toNat : Int) := by rw [hM2]; exact b32_and _ _
      obtain ⟨M3, hM3⟩ : ∃ x : BitVec 32, x = M1 ^^^ M2 := ⟨_, rfl⟩
      have eM3 : bits .xor .u32 (M1.toNat : Int) (M2.toNat : Int) = (M3.toNat : Int) := by rw [hM3]; exact b32_xor _ _
      obtain ⟨W1, hW1⟩ : ∃ x : BitVec 32, x = Sh + U2 := ⟨_, rfl⟩
      have eW1 : IntKind.u32.wrap ((Sh.toNat : Int) + (U2.toNat : Int)) = (W1.toNat : Int) := by rw [hW1]; exact wrap_add _ _
      have fW1 : ((Sh.toNat : Int) + (U2.toNat : Int)) % 4294967296 = (W1.toNat : Int) := by rw [hW1]; exact b32_add _ _
      obtain ⟨W2, hW2⟩ : ∃ x : BitVec 32, x = W1 + M3 := ⟨_, rfl⟩
      have eW2 : IntKind.u32.wrap ((W1.toNat : Int) + (M3.toNat : Int)) = (W2.toNat : Int) := by rw [hW2]; exact wrap_add _ _
      have fW2 : ((W1.toNat : Int) + (M3.toNat : Int)) % 4294967296 = (W2.toNat : Int) := by rw [hW2]; exact b32_add _ _
      obtain ⟨W3, hW3⟩ : ∃ x : BitVec 32, x = W2 + KK := ⟨_, rfl⟩
      have eW3 : IntKind.u32.wrap ((W2.toNat : Int) + (KK.toNat : Int)) = (W3.toNat : Int) := by rw [hW3]; exact wrap_add _ _
      have fW3 : ((W2.toNat : Int) + (KK.toNat : Int)) % 4294967296 = (W3.toNat : Int) := by rw [hW3]; exact b32_add _ _
      obtain ⟨T1, hT1⟩ : ∃ x : BitVec 32, x = W3 + VV := ⟨_, rfl⟩
      have eT1 : IntKind.u32.wrap ((W3.toNat : Int) + (VV.toNat : Int)) = (T1.toNat : Int) := by rw [hT1]; exact wrap_add _ _
      have fT1 : ((W3.toNat : Int) + (VV.toNat : Int)) % 4294967296 = (T1.toNat : Int) := by rw [hT1]; exact b32_add _ _
      obtain ⟨Y1, hY1⟩ : ∃ x : BitVec 32, x = F2 ^^^ F13 := ⟨_, rfl⟩
      have eY1 : bits .xor .u32 (F2.toNat : Int) (F13.toNat : Int) = (Y1.toNat : Int) := by rw [hY1]; exact b32_xor _ _
      obtain ⟨Y2, hY2⟩ : ∃ x : BitVec 32, x = Y1 ^^^ F22 := ⟨_, rfl⟩
      have eY2 : bits .xor .u32 (Y1.toNat : Int) (F22.toNat : Int) = (Y2.toNat : Int) := by rw [hY2]; exact b32_xor _ _
      obtain ⟨B1, hB1⟩ : ∃ x : BitVec 32, x = Sa &&& Sb := ⟨_, rfl⟩
      have eB1 : bits .and .u32 (Sa.toNat : Int) (Sb.toNat : Int) = (B1.toNat : Int) := by rw [hB1]; exact b32_and _ _
      obtain ⟨B2, hB2⟩ : ∃ x : BitVec 32, x = Sa &&& Sc := ⟨_, rfl⟩
      have eB2 : bits .and .u32 (Sa.toNat : Int) (Sc.toNat : Int) = (B2.toNat : Int) := by rw [hB2]; exact b32_and _ _
      obtain ⟨B3, hB3⟩ : ∃ x : BitVec 32, x = B1 ^^^ B2 := ⟨_, rfl⟩
      have eB3 : bits .xor .u32 (B1.toNat : Int) (B2.toNat : Int) = (B3.toNat : Int) := by rw [hB3]; exact b32_xor _ _
      obtain ⟨B4, hB4⟩ : ∃ x : BitVec 32, x = Sb &&& Sc := ⟨_, rfl⟩
      have eB4 : bits .and .u32 (Sb.toNat : Int) (Sc.toNat : Int) = (B4.toNat : Int) := by rw [hB4]; exact b32_and _ _
      obtain ⟨MJ, hMJ⟩ : ∃ x : BitVec 32, x = B3 ^^^ B4 := ⟨_, rfl⟩
      have eMJ : bits .xor .u32 (B3.toNat : Int) (B4.toNat : Int) = (MJ.toNat : Int) := by rw [hMJ]; exact b32_xor _ _
      obtain ⟨T2, hT2⟩ : ∃ x : BitVec 32, x = Y2 + MJ := ⟨_, rfl⟩
      have eT2 : IntKind.u32.wrap ((Y2.toNat : Int) + (MJ.toNat : Int)) = (T2.toNat : Int) := by rw [hT2]; exact wrap_add _ _
      have fT2 : ((Y2.toNat : Int) + (MJ.toNat : Int)) % 4294967296 = (T2.toNat : Int) := by rw [hT2]; exact b32_add _ _
      obtain ⟨D1, hD1⟩ : ∃ x : BitVec 32, x = Sd + T1 := ⟨_, rfl⟩
      have eD1 : IntKind.u32.wrap ((Sd.toNat : Int) + (T1.toNat : Int)) = (D1.toNat : Int) := by rw [hD1]; exact wrap_add _ _
      have fD1 : ((Sd.toNat : Int) + (T1.toNat : Int)) % 4294967296 = (D1.toNat : Int) := by rw [hD1]; exact b32_add _ _
      obtain ⟨N1, hN1⟩ : ∃ x : BitVec 32, x = T1 + T2 := ⟨_, rfl⟩
      have eN1 : IntKind.u32.wrap ((T1.toNat : Int) + (T2.toNat : Int)) = (N1.toNat : Int) := by rw [hN1]; exact wrap_add _ _
      have fN1 : ((T1.toNat : Int) + (T2.toNat : Int)) % 4294967296 = (N1.toNat : Int) := by rw [hN1]; exact b32_add _ _
      have hT1 : T1 = t1B ⟨Sa, Sb, Sc, Sd, Se, Sf, Sg, Sh⟩ KK VV := by rw [hT1, hW3, hW2, hW1, hM3, hM2, hNE, hM1, hU2, hU1, hE6, hE11, hE25]; rfl
      have hT2 : T2 = t2B ⟨Sa, Sb, Sc, Sd, Se, Sf, Sg, Sh⟩ := by rw [hT2, hMJ, hB4, hB3, hB2, hB1, hY2, hY1, hF2, hF13, hF22]; rfl
      have hRS : roundS ⟨Sa, Sb, Sc, Sd, Se, Sf, Sg, Sh⟩ KK VV = ⟨N1, Sa, Sb, Sc, D1, Se, Sf, Sg⟩ := by rw [hN1, hD1, hT1, hT2]; rfl
      have CK := Lib.hid ck
      have CV := Lib.hid cv
      have CT := Lib.hid ct
      have R1 := Lib.hid r1
      have R2 := Lib.hid r2
      have R3 := Lib.hid r3
      have A1 := Lib.hid a1'
      have A2 := Lib.hid a2'
      have A3 := Lib.hid a3'
      have FT1 := Lib.hid fT1
      have FT2 := Lib.hid fT2
      have FD1 := Lib.hid fD1
      have FN1 := Lib.hid fN1
      clear fW1 fW2 fW3 fT1 fT2 fD1 fN1
      have HKK := Lib.hid hKK
      have HVV := Lib.hid hVV
      have HSS := Lib.hid hS
      have HRS := Lib.hid hRS
      clear ck cv ct hr r1 r2 r3 a1 a2 a3 a1' a2' a3' hKK hVV hS hRS hT1 hT2 hE6 hE11 hE25 hF2 hF13 hF22 hU1 hU2 hM1 hNE hM2 hM3 hW1 hW2 hW3 hY1 hY2 hB1 hB2 hB3 hB4 hMJ hD1 hN1
      go_upto_region 26 with (fail)
      refine wp_region_below' (w0 := wB) (B := wB.heap.size) (by kernel_rfl) (by kernel_rfl) hbr ?_
      repeat (first
        | go_big_quiet_skip
        | (go_big_quiet_want
           first
             | (refine quiet_load_cell 24 (.tmp 199) rfl ⟨tb, 1, none⟩ rfl (.slice (some ⟨br, 0, none⟩) 64 cr) _ CT.out Tryd.underlying24 rfl ?_
                simp only [Act.put, List.setIfInBounds_toArray, List.set_cons_zero, List.set_cons_succ]
                go_big_quiet_on)
             | (refine quiet_load_cell 45 (.tmp 202) rfl ⟨br, k, none⟩ rfl (.int .u32 (KK.toNat : Int)) _ CK.out Tryd.underlying45 rfl ?_
                simp only [Act.put, List.setIfInBounds_toArray, List.set_cons_zero, List.set_cons_succ]
                go_big_quiet_on)
             | (refine quiet_load_cell 45 (.tmp 207) rfl ⟨gw, k, none⟩ rfl (.int .u32 (VV.toNat : Int)) _ CV.out Tryd.underlying45 rfl ?_
                simp only [Act.put, List.setIfInBounds_toArray, List.set_cons_zero, List.set_cons_succ]
                go_big_quiet_on)
             | (refine quiet_enter' _ _ _ ?_ R1.out ?_
                · intro w; go_simp
                simp only [Act.put, List.setIfInBounds_toArray, List.set_cons_zero, List.set_cons_succ]
                go_big_quiet_on)
             | (refine quiet_enter' _ _ _ ?_ R2.out ?_
                · intro w; go_simp
                simp only [Act.put, List.setIfInBounds_toArray, List.set_cons_zero, List.set_cons_succ]
                go_big_quiet_on)
             | (refine quiet_enter' _ _ _ ?_ R3.out ?_
                · intro w; go_simp
                simp only [Act.put, List.setIfInBounds_toArray, List.set_cons_zero, List.set_cons_succ]
                go_big_quiet_on)
             | (go_big_quiet_op
                first | refine ⟨_, fun _ _ => rfl, ?_⟩ | refine ⟨_, fun _ _ _ => rfl, ?_⟩ | refine ⟨_, fun _ _ _ _ => rfl, ?_⟩
                go_big_quiet_on)
             | (go_big_quiet_op
                go_big_quiet_on)))
      refine wpQuiet_nil ?_
      intro w9 hb9
      try rw [FT1.out]
      go_upto_region 28 with (go_at_call 26; (first | with_reducible refine (A1.out _).mono ?_ | with_reducible refine (A2.out _).mono ?_ | with_reducible refine (A3.out _).mono ?_); rintro e w10 ⟨rfl, rfl⟩)
      try rw [FT2.out]
      go_wp2
      go_roundw
      case rel => exact ⟨k + 1, ⟨N1, Sa, Sb, Sc, D1, Se, Sf, Sg⟩, by omega, by rw [roundsS, ← HSS.out, ← HKK.out, ← HVV.out]; exact HRS.out.symm, by go_num, (by first | rfl | rw [FT1.out, FD1.out] | rw [FT1.out, FN1.out] | rw [FT1.out, FT2.out, FN1.out] | rw [FT2.out, FN1.out] | rw [FN1.out] | rw [FD1.out]), (by first | rfl | rw [FT1.out, FD1.out] | rw [FT1.out, FN1.out] | rw [FT1.out, FT2.out, FN1.out] | rw [FT2.out, FN1.out] | rw [FN1.out] | rw [FD1.out]), (by first | rfl | rw [FT1.out, FD1.out] | rw [FT1.out, FN1.out] | rw [FT1.out, FT2.out, FN1.out] | rw [FT2.out, FN1.out] | rw [FN1.out] | rw [FD1.out]), (by first | rfl | rw [FT1.out, FD1.out] | rw [FT1.out, FN1.out] | rw [FT1.out, FT2.out, FN1.out] | rw [FT2.out, FN1.out] | rw [FN1.out] | rw [FD1.out]), (by first | rfl | rw [FT1.out, FD1.out] | rw [FT1.out, FN1.out] | rw [FT1.out, FT2.out, FN1.out] | rw [FT2.out, FN1.out] | rw [FN1.out] | rw [FD1.out]), (by first | rfl | rw [FT1.out, FD1.out] | rw [FT1.out, FN1.out] | rw [FT1.out, FT2.out, FN1.out] | rw [FT2.out, FN1.out] | rw [FN1.out] | rw [FD1.out]), (by first | rfl | rw [FT1.out, FD1.out] | rw [FT1.out, FN1.out] | rw [FT1.out, FT2.out, FN1.out] | rw [FT2.out, FN1.out] | rw [FN1.out] | rw [FD1.out]), (by first | rfl | rw [FT1.out, FD1.out] | rw [FT1.out, FN1.out] | rw [FT1.out, FT2.out, FN1.out] | rw [FT2.out, FN1.out] | rw [FN1.out] | rw [FD1.out]), hb9⟩
      case measure => simp [intOf]; omega
    · have hk64 : k = 64 := by omega
      rw [hk64] at hS
      go_wp2_with fail
      exact hexit S _ _ _ _ _ _ _ _ _ _ _ _ _ _ _ _ _ _ _ _ _ _ _ _ _ _ _ _ _ _ _ _ _ _ _ _ _ _ _ _ _ _ _ _ _ _ _ _ _ _ _ _ _ _ _ _ _ _ _ _ _ _ _ _ _ _ _ _ _ _ hS hbr
end Go.Proofs.YtkgclhkpncegnaaDoor
