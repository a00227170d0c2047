/- Own texts, packed: TRefR, TRefA. -/
import Derived.Test.YtboofamenpcnhaaGreatDoorV46
namespace Go.Proofs.YtboofamenpcnhaaGreatDoor.RefT
open Go.RowKit
set_option linter.unusedVariables false
set_option linter.unusedSimpArgs false
set_option maxHeartbeats 4000000 in
set_option maxRecDepth 1000000 in
theorem ref_rounds (B g cw : Nat) (ks ws : List Int) (s0 s1 s2 s3 s4 s5 s6 s7 : Int) (c0 c1 c2 c4 c5 c6 c7 c8 c10 c11 c12 c13 c14 c15 c25 c26 c27 c28 c29 c30 c31 c32 c33 c34 c35 c36 c37 c38 c39 c40 c41 c42 c43 c44 c45 c46 c47 c48 c49 c50 c51 c52 c53 c54 c55 c56 c57 c58 c59 c60 c61 c62 c63 c64 c65 c66 c67 c68 c69 c70 c71 c72 c73 c74 c75 c76 c77 c78 c79 c80 c81 c82 c83 c84 c85 c86 c87 c88 c89 c90 c91 c92 c93 c94 c95 c96 c97 c98 c99 c100 c101 c102 c103 c104 c105 c106 c107 c108 c109 c110 c111 c112 c113 c114 c115 c116 c117 c118 c119 c120 c121 c122 c123 c124 c125 c126 c127 c128 c129 c130 c131 c132 c133 c134 c135 c136 c137 c138 c139 c140 c141 c142 c143 c144 c145 c146 c147 c148 c149 c150 c151 c152 c153 c154 c155 c156 c157 c158 c159 c160 c161 c162 c163 c164 c165 c166 c167 c168 c169 c170 c171 c172 c173 c174 c175 c176 c177 c178 c179 c180 c181 c182 c183 c184 c185 c186 c187 c188 c189 c190 c191 c192 c193 c194 c195 c196 c197 c198 c199 c200 c201 c202 c203 c204 c205 c206 c207 c208 c209 c210 c211 c212 c213 c214 c215 c216 c217 c218 c219 c220 c221 c222 c223 c224 c225 c226 c227 c228 c229 c230 c231 c232 c233 c234 c235 c236 c237 c238 c239 c240 c241 c242 c243 c244 c245 c246 c247 c248 c249 c250 c251 c252 c253 c254 c255 c256 c257 c258 c259 c260 c261 c262 c263 c264 c265 c266 c267 c268 c269 c270 c271 c272 c273 c274 c275 c276 c277 c278 c279 c280 c281 c282 c283 : Value) (w : World) (Q0 : Exit → Act → World → Prop)
    (hk : ∀ i, i < 64 → w.cell? ⟨B, i, none⟩ = some (.int .u32 (ks.getD i 0))) (hw : ∀ i, i < 64 → w.cell? ⟨g, i, none⟩ = some (.int .u32 (ws.getD i 0)))
    (h4 : 0 ≤ s4 ∧ s4 < 4294967296)
    (hexit : ∀ (u24 u25 u26 u178 u179 u180 u181 u182 u183 u184 u185 u186 u187 u188 u189 u190 u191 u192 u193 u194 u195 u196 u197 u198 u199 u200 u201 u202 u203 u204 u205 u206 u207 u208 u209 u210 u211 u212 u213 u214 u215 u216 u217 u218 u219 u220 u221 u222 u223 u224 u225 u226 u227 u228 u229 u230 u231 u232 u233 u234 u235 u236 u237 u238 u239 u240 u241 u242 : Value) (a b c d e f g' h : Int) (w' : World), rnds ks ws ⟨s0, s1, s2, s3, s4, s5, s6, s7⟩ 64 = ⟨a, b, c, d, e, f, g', h⟩ → Same w w' → Q0 (.exit 12) ⟨List.toArray (c0 :: c1 :: c2 :: (.slice (some ⟨B, 0, none⟩) 64 64) :: c4 :: c5 :: c6 :: c7 :: c8 :: (.slice (some ⟨g, 0, none⟩) 64 cw) :: c10 :: c11 :: c12 :: c13 :: c14 :: c15 :: (.int .u32 a) :: (.int .u32 b) :: (.int .u32 c) :: (.int .u32 d) :: (.int .u32 e) :: (.int .u32 f) :: (.int .u32 g') :: (.int .u32 h) :: u24 :: u25 :: u26 :: c27 :: c28 :: c29 :: c30 :: c31 :: c32 :: c33 :: c34 :: c35 :: c36 :: c37 :: c38 :: c39 :: c40 :: c41 :: c42 :: c43 :: c44 :: c45 :: c46 :: c47 :: c48 :: c49 :: c50 :: c51 :: c52 :: c53 :: c54 :: c55 :: c56 :: c57 :: c58 :: c59 :: c60 :: c61 :: c62 :: c63 :: c64 :: c65 :: c66 :: c67 :: c68 :: c69 :: c70 :: c71 :: c72 :: c73 :: c74 :: c75 :: c76 :: c77 :: c78 :: c79 :: c80 :: c81 :: c82 :: c83 :: c84 :: c85 :: c86 :: c87 :: c88 :: c89 :: c90 :: c91 :: c92 :: c93 :: c94 :: c95 :: c96 :: c97 :: c98 :: c99 :: c100 :: c101 :: c102 :: c103 :: c104 :: c105 :: c106 :: c107 :: c108 :: c109 :: c110 :: c111 :: c112 :: c113 :: c114 :: c115 :: c116 :: c117 :: c118 :: c119 :: c120 :: c121 :: c122 :: c123 :: c124 :: c125 :: c126 :: c127 :: c128 :: c129 :: c130 :: c131 :: c132 :: c133 :: c134 :: c135 :: c136 :: c137 :: c138 :: c139 :: c140 :: c141 :: c142 :: c143 :: c144 :: c145 :: c146 :: c147 :: c148 :: c149 :: c150 :: c151 :: c152 :: c153 :: c154 :: c155 :: c156 :: c157 :: c158 :: c159 :: c160 :: c161 :: c162 :: c163 :: c164 :: c165 :: c166 :: c167 :: c168 :: c169 :: c170 :: c171 :: c172 :: c173 :: c174 :: c175 :: c176 :: c177 :: u178 :: u179 :: u180 :: u181 :: u182 :: u183 :: u184 :: u185 :: u186 :: u187 :: u188 :: u189 :: u190 :: u191 :: u192 :: u193 :: u194 :: u195 :: u196 :: u197 :: u198 :: u199 :: u200 :: u201 :: u202 :: u203 :: u204 :: u205 :: u206 :: u207 :: u208 :: u209 :: u210 :: u211 :: u212 :: u213 :: u214 :: u215 :: u216 :: u217 :: u218 :: u219 :: u220 :: u221 :: u222 :: u223 :: u224 :: u225 :: u226 :: u227 :: u228 :: u229 :: u230 :: u231 :: u232 :: u233 :: u234 :: u235 :: u236 :: u237 :: u238 :: u239 :: u240 :: u241 :: u242 :: c243 :: c244 :: c245 :: c246 :: c247 :: c248 :: c249 :: c250 :: c251 :: c252 :: c253 :: c254 :: c255 :: c256 :: c257 :: c258 :: c259 :: c260 :: c261 :: c262 :: c263 :: c264 :: c265 :: c266 :: c267 :: c268 :: c269 :: c270 :: c271 :: c272 :: c273 :: c274 :: c275 :: c276 :: c277 :: c278 :: c279 :: c280 :: c281 :: c282 :: c283 :: []), []⟩ w') :
    Code.wp Tryz.prog (.loop (refBody 6)) Q0 ⟨List.toArray (c0 :: c1 :: c2 :: (.slice (some ⟨B, 0, none⟩) 64 64) :: c4 :: c5 :: c6 :: c7 :: c8 :: (.slice (some ⟨g, 0, none⟩) 64 cw) :: c10 :: c11 :: c12 :: c13 :: c14 :: c15 :: (.int .u32 s0) :: (.int .u32 s1) :: (.int .u32 s2) :: (.int .u32 s3) :: (.int .u32 s4) :: (.int .u32 s5) :: (.int .u32 s6) :: (.int .u32 s7) :: (.int .i64 0) :: c25 :: c26 :: c27 :: c28 :: c29 :: c30 :: c31 :: c32 :: c33 :: c34 :: c35 :: c36 :: c37 :: c38 :: c39 :: c40 :: c41 :: c42 :: c43 :: c44 :: c45 :: c46 :: c47 :: c48 :: c49 :: c50 :: c51 :: c52 :: c53 :: c54 :: c55 :: c56 :: c57 :: c58 :: c59 :: c60 :: c61 :: c62 :: c63 :: c64 :: c65 :: c66 :: c67 :: c68 :: c69 :: c70 :: c71 :: c72 :: c73 :: c74 :: c75 :: c76 :: c77 :: c78 :: c79 :: c80 :: c81 :: c82 :: c83 :: c84 :: c85 :: c86 :: c87 :: c88 :: c89 :: c90 :: c91 :: c92 :: c93 :: c94 :: c95 :: c96 :: c97 :: c98 :: c99 :: c100 :: c101 :: c102 :: c103 :: c104 :: c105 :: c106 :: c107 :: c108 :: c109 :: c110 :: c111 :: c112 :: c113 :: c114 :: c115 :: c116 :: c117 :: c118 :: c119 :: c120 :: c121 :: c122 :: c123 :: c124 :: c125 :: c126 :: c127 :: c128 :: c129 :: c130 :: c131 :: c132 :: c133 :: c134 :: c135 :: c136 :: c137 :: c138 :: c139 :: c140 :: c141 :: c142 :: c143 :: c144 :: c145 :: c146 :: c147 :: c148 :: c149 :: c150 :: c151 :: c152 :: c153 :: c154 :: c155 :: c156 :: c157 :: c158 :: c159 :: c160 :: c161 :: c162 :: c163 :: c164 :: c165 :: c166 :: c167 :: c168 :: c169 :: c170 :: c171 :: c172 :: c173 :: c174 :: c175 :: c176 :: c177 :: c178 :: c179 :: c180 :: c181 :: c182 :: c183 :: c184 :: c185 :: c186 :: c187 :: c188 :: c189 :: c190 :: c191 :: c192 :: c193 :: c194 :: c195 :: c196 :: c197 :: c198 :: c199 :: c200 :: c201 :: c202 :: c203 :: c204 :: c205 :: c206 :: c207 :: c208 :: c209 :: c210 :: c211 :: c212 :: c213 :: c214 :: c215 :: c216 :: c217 :: c218 :: c219 :: c220 :: c221 :: c222 :: c223 :: c224 :: c225 :: c226 :: c227 :: c228 :: c229 :: c230 :: c231 :: c232 :: c233 :: c234 :: c235 :: c236 :: c237 :: c238 :: c239 :: c240 :: c241 :: c242 :: c243 :: c244 :: c245 :: c246 :: c247 :: c248 :: c249 :: c250 :: c251 :: c252 :: c253 :: c254 :: c255 :: c256 :: c257 :: c258 :: c259 :: c260 :: c261 :: c262 :: c263 :: c264 :: c265 :: c266 :: c267 :: c268 :: c269 :: c270 :: c271 :: c272 :: c273 :: c274 :: c275 :: c276 :: c277 :: c278 :: c279 :: c280 :: c281 :: c282 :: c283 :: []), []⟩ w := by
  have HE := Lib.hid hexit
  have HK := Lib.hid hk
  have HW := Lib.hid hw
  clear hexit hk hw
  conv => arg 2; arg 1; whnf
  go_loopw [16, 17, 18, 19, 20, 21, 22, 23, 24] (fun va vb vc vd ve vf vg vh i wr => ∃ (k : Nat) (a b c d e f q h : Int), rnds ks ws ⟨s0, s1, s2, s3, s4, s5, s6, s7⟩ k = ⟨a, b, c, d, e, f, q, h⟩ ∧ k ≤ 64 ∧ (0 ≤ e ∧ e < 4294967296) ∧ i = .int .i64 (k : Int) ∧ va = .int .u32 a ∧ vb = .int .u32 b ∧ vc = .int .u32 c ∧ vd = .int .u32 d ∧ ve = .int .u32 e ∧ vf = .int .u32 f ∧ vg = .int .u32 q ∧ vh = .int .u32 h ∧ Same w wr) (fun _ _ _ _ _ _ _ _ i _ => 64 - (intOf i).toNat)
  case atStart => exact ⟨0, s0, s1, s2, s3, s4, s5, s6, s7, rfl, Nat.zero_le _, h4, rfl, rfl, rfl, rfl, rfl, rfl, rfl, rfl, rfl, Same.refl w⟩
  case round =>
    obtain ⟨k, a, b, c, d, e, f, q, z, hrn, hk', he, rfl, rfl, rfl, rfl, rfl, rfl, rfl, rfl, rfl, hS⟩ := hrel
    have HRN := Lib.hid hrn
    have HS := Lib.hid hS
    clear hrn hS
    by_cases hlt : k < 64
    · have cr := HS.out.cell (HK.out k hlt)
      have cw' := HS.out.cell (HW.out k hlt)
      obtain ⟨x, ex⟩ : ∃ x, ws.getD k 0 = x := ⟨_, rfl⟩
      obtain ⟨y, ey⟩ : ∃ y, ks.getD k 0 = y := ⟨_, rfl⟩
      rw [ex] at cw'
      rw [ey] at cr
      have EX := Lib.hid ex
      have EY := Lib.hid ey
      have gm : 0 ≤ (k : Int) ∧ (k : Int) < 64 := by omega
      have hcomp := comp32 e he.1 he.2
      have HC := Lib.hid hcomp
      clear ex ey hcomp
      have dl : decide ((k : Int) < 64) = true := by simp; omega
      go_wp2_with fail
      go_quiet (first | (go_at_call_of 27 (Value.int IntKind.i64 6); exact Calls.quiet_of (refturn_at _ 6 rfl e (by omega) (by omega) _)) | (go_at_call_of 27 (Value.int IntKind.i64 11); exact Calls.quiet_of (refturn_at _ 11 rfl e (by omega) (by omega) _)) | (go_at_call_of 27 (Value.int IntKind.i64 25); exact Calls.quiet_of (refturn_at _ 25 rfl e (by omega) (by omega) _)))
      have ht : ((z + bits .xor .u32 (bits .xor .u32 (rotr 6 e) (rotr 11 e)) (rotr 25 e) + bits .xor .u32 (bits .and .u32 e f) (bits .and .u32 (4294967295 - e) q) + y) % 4294967296 + x) % 4294967296 = tt e f q z y x := by
        unfold tt S1 ch; rw [HC.out]; omega
      simp only [ht]
      have HS2 := Lib.hid (HS.out.drewN nq)
      generalize wr.drewN nq = w5 at HS2 ⊢
      generalize htt : tt e f q z y x = t
      have HTT := Lib.hid htt
      clear ht htt cw' cr HS
      go_wp2_with fail
      refine (refturn_at _ 2 rfl a (by omega) (by omega) _).mono ?_
      rintro r w' ⟨rfl, n1, rfl⟩
      go_wp2_with fail
      refine (refturn_at _ 13 rfl a (by omega) (by omega) _).mono ?_
      rintro r w' ⟨rfl, n2, rfl⟩
      go_wp2_with fail
      refine (refturn_at _ 22 rfl a (by omega) (by omega) _).mono ?_
      rintro r w' ⟨rfl, n3, rfl⟩
      go_wp2_with fail
      go_roundw
      case rel =>
        refine ⟨k + 1, (t + uu a b c) % 4294967296, a, b, c, (d + t) % 4294967296, e, f, q, ?_, by omega, ⟨Int.emod_nonneg _ (by omega), Int.emod_lt_of_pos _ (by omega)⟩, by go_num, rfl, rfl, rfl, rfl, rfl, rfl, rfl, rfl, HS2.out.drewN _⟩
        rw [rnds, HRN.out, EX.out, EY.out, rnd]
        simp only [HTT.out]
      case measure => simp [intOf]; omega
    · have hk64 : k = 64 := by omega
      have hfin := HRN.out
      rw [hk64] at hfin
      have HF := Lib.hid hfin
      have dl : decide ((k : Int) < 64) = false := by simp; omega
      clear hfin hk64
      go_wp2_with fail
      exact HE.out _ _ _ _ _ _ _ _ _ _ _ _ _ _ _ _ _ _ _ _ _ _ _ _ _ _ _ _ _ _ _ _ _ _ _ _ _ _ _ _ _ _ _ _ _ _ _ _ _ _ _ _ _ _ _ _ _ _ _ _ _ _ _ _ _ _ _ _ _ _ _ _ _ _ _ _ _ HF.out HS.out
end Go.Proofs.YtboofamenpcnhaaGreatDoor.RefT
namespace Go.Proofs.YtboofamenpcnhaaGreatDoor.RefT
open Go.RowKit
set_option linter.unusedVariables false
set_option linter.unusedSimpArgs false
def addK (ss ts : List Int) (k : Nat) : List Int := (List.range 8).map fun i => if i < k then add32 (ss.getD i 0) (ts.getD i 0) else ss.getD i 0
theorem addK_len (ss ts : List Int) (k : Nat) : (addK ss ts k).length = 8 := by simp [addK]
theorem addK_at (ss ts : List Int) (k i : Nat) (h : i < 8) : (addK ss ts k).getD i 0 = if i < k then add32 (ss.getD i 0) (ts.getD i 0) else ss.getD i 0 := by
  simp [addK, List.getD, h]
theorem addK_set (ss ts : List Int) (k : Nat) (h : k < 8) : (addK ss ts k).set k (add32 (ss.getD k 0) (ts.getD k 0)) = addK ss ts (k + 1) := by
  apply List.ext_getElem
  · simp [addK]
  · intro i h1 h2
    simp only [addK_len] at h2
    rw [List.getElem_set]
    simp only [addK, List.getElem_map, List.getElem_range]
    by_cases e : k = i
    · subst e; simp
    · simp only [e, if_false]
      by_cases q : i < k
      · simp [q, show i < k + 1 by omega]
      · simp [q, show ¬ i < k + 1 by omega]
theorem addK_zero (ss ts : List Int) (h : ss.length = 8) : addK ss ts 0 = ss := by
  apply List.ext_getElem
  · simp [addK, h]
  · intro i h1 h2
    simp [addK, List.getD, h2]
set_option maxHeartbeats 4000000 in
set_option maxRecDepth 1000000 in
theorem ref_adds (H L : Nat) (ss ts : List Int) (c0 c1 c2 c3 c5 c6 c7 c8 c9 c10 c11 c12 c13 c14 c15 c16 c17 c18 c19 c20 c21 c22 c23 c24 c25 c26 c29 c30 c31 c32 c33 c34 c35 c36 c37 c38 c39 c40 c41 c42 c43 c44 c45 c46 c47 c48 c49 c50 c51 c52 c53 c54 c55 c56 c57 c58 c59 c60 c61 c62 c63 c64 c65 c66 c67 c68 c69 c70 c71 c72 c73 c74 c75 c76 c77 c78 c79 c80 c81 c82 c83 c84 c85 c86 c87 c88 c89 c90 c91 c92 c93 c94 c95 c96 c97 c98 c99 c100 c101 c102 c103 c104 c105 c106 c107 c108 c109 c110 c111 c112 c113 c114 c115 c116 c117 c118 c119 c120 c121 c122 c123 c124 c125 c126 c127 c128 c129 c130 c131 c132 c133 c134 c135 c136 c137 c138 c139 c140 c141 c142 c143 c144 c145 c146 c147 c148 c149 c150 c151 c152 c153 c154 c155 c156 c157 c158 c159 c160 c161 c162 c163 c164 c165 c166 c167 c168 c169 c170 c171 c172 c173 c174 c175 c176 c177 c178 c179 c180 c181 c182 c183 c184 c185 c186 c187 c188 c189 c190 c191 c192 c193 c194 c195 c196 c197 c198 c199 c200 c201 c202 c203 c204 c205 c206 c207 c208 c209 c210 c211 c212 c213 c214 c215 c216 c217 c218 c219 c220 c221 c222 c223 c224 c225 c226 c227 c228 c229 c230 c231 c232 c233 c234 c235 c236 c237 c238 c239 c240 c241 c242 c243 c244 c245 c246 c247 c248 c249 c250 c251 c252 c253 c254 c255 c256 c257 c258 c259 c260 c261 c262 c263 c264 c265 c266 c267 c268 c269 c270 c271 c272 c273 c274 c275 c276 c277 c278 c279 c280 c281 c282 c283 : Value) (w : World) (Q0 : Exit → Act → World → Prop)
    (hs : Words w H 65 ss) (ht : Words w L 65 ts) (hsl : ss.length = 8) (htl : ts.length = 8) (hne : H ≠ L)
    (hexit : ∀ (u28 u252 u253 u254 u255 u256 u257 u258 u259 u260 u261 u262 u263 u264 u265 : Value) (w' : World), Words w' H 65 (addK ss ts 8) → Turn (fun q => q = H) w w' → Q0 (.exit 14) ⟨List.toArray (c0 :: c1 :: c2 :: c3 :: (.slice (some ⟨H, 0, none⟩) 8 8) :: c5 :: c6 :: c7 :: c8 :: c9 :: c10 :: c11 :: c12 :: c13 :: c14 :: c15 :: c16 :: c17 :: c18 :: c19 :: c20 :: c21 :: c22 :: c23 :: c24 :: c25 :: c26 :: (.slice (some ⟨L, 0, none⟩) 8 8) :: u28 :: c29 :: c30 :: c31 :: c32 :: c33 :: c34 :: c35 :: c36 :: c37 :: c38 :: c39 :: c40 :: c41 :: c42 :: c43 :: c44 :: c45 :: c46 :: c47 :: c48 :: c49 :: c50 :: c51 :: c52 :: c53 :: c54 :: c55 :: c56 :: c57 :: c58 :: c59 :: c60 :: c61 :: c62 :: c63 :: c64 :: c65 :: c66 :: c67 :: c68 :: c69 :: c70 :: c71 :: c72 :: c73 :: c74 :: c75 :: c76 :: c77 :: c78 :: c79 :: c80 :: c81 :: c82 :: c83 :: c84 :: c85 :: c86 :: c87 :: c88 :: c89 :: c90 :: c91 :: c92 :: c93 :: c94 :: c95 :: c96 :: c97 :: c98 :: c99 :: c100 :: c101 :: c102 :: c103 :: c104 :: c105 :: c106 :: c107 :: c108 :: c109 :: c110 :: c111 :: c112 :: c113 :: c114 :: c115 :: c116 :: c117 :: c118 :: c119 :: c120 :: c121 :: c122 :: c123 :: c124 :: c125 :: c126 :: c127 :: c128 :: c129 :: c130 :: c131 :: c132 :: c133 :: c134 :: c135 :: c136 :: c137 :: c138 :: c139 :: c140 :: c141 :: c142 :: c143 :: c144 :: c145 :: c146 :: c147 :: c148 :: c149 :: c150 :: c151 :: c152 :: c153 :: c154 :: c155 :: c156 :: c157 :: c158 :: c159 :: c160 :: c161 :: c162 :: c163 :: c164 :: c165 :: c166 :: c167 :: c168 :: c169 :: c170 :: c171 :: c172 :: c173 :: c174 :: c175 :: c176 :: c177 :: c178 :: c179 :: c180 :: c181 :: c182 :: c183 :: c184 :: c185 :: c186 :: c187 :: c188 :: c189 :: c190 :: c191 :: c192 :: c193 :: c194 :: c195 :: c196 :: c197 :: c198 :: c199 :: c200 :: c201 :: c202 :: c203 :: c204 :: c205 :: c206 :: c207 :: c208 :: c209 :: c210 :: c211 :: c212 :: c213 :: c214 :: c215 :: c216 :: c217 :: c218 :: c219 :: c220 :: c221 :: c222 :: c223 :: c224 :: c225 :: c226 :: c227 :: c228 :: c229 :: c230 :: c231 :: c232 :: c233 :: c234 :: c235 :: c236 :: c237 :: c238 :: c239 :: c240 :: c241 :: c242 :: c243 :: c244 :: c245 :: c246 :: c247 :: c248 :: c249 :: c250 :: c251 :: u252 :: u253 :: u254 :: u255 :: u256 :: u257 :: u258 :: u259 :: u260 :: u261 :: u262 :: u263 :: u264 :: u265 :: c266 :: c267 :: c268 :: c269 :: c270 :: c271 :: c272 :: c273 :: c274 :: c275 :: c276 :: c277 :: c278 :: c279 :: c280 :: c281 :: c282 :: c283 :: []), []⟩ w') :
    Code.wp Tryz.prog (.loop (refBody 7)) Q0 ⟨List.toArray (c0 :: c1 :: c2 :: c3 :: (.slice (some ⟨H, 0, none⟩) 8 8) :: c5 :: c6 :: c7 :: c8 :: c9 :: c10 :: c11 :: c12 :: c13 :: c14 :: c15 :: c16 :: c17 :: c18 :: c19 :: c20 :: c21 :: c22 :: c23 :: c24 :: c25 :: c26 :: (.slice (some ⟨L, 0, none⟩) 8 8) :: (.int .i64 0) :: c29 :: c30 :: c31 :: c32 :: c33 :: c34 :: c35 :: c36 :: c37 :: c38 :: c39 :: c40 :: c41 :: c42 :: c43 :: c44 :: c45 :: c46 :: c47 :: c48 :: c49 :: c50 :: c51 :: c52 :: c53 :: c54 :: c55 :: c56 :: c57 :: c58 :: c59 :: c60 :: c61 :: c62 :: c63 :: c64 :: c65 :: c66 :: c67 :: c68 :: c69 :: c70 :: c71 :: c72 :: c73 :: c74 :: c75 :: c76 :: c77 :: c78 :: c79 :: c80 :: c81 :: c82 :: c83 :: c84 :: c85 :: c86 :: c87 :: c88 :: c89 :: c90 :: c91 :: c92 :: c93 :: c94 :: c95 :: c96 :: c97 :: c98 :: c99 :: c100 :: c101 :: c102 :: c103 :: c104 :: c105 :: c106 :: c107 :: c108 :: c109 :: c110 :: c111 :: c112 :: c113 :: c114 :: c115 :: c116 :: c117 :: c118 :: c119 :: c120 :: c121 :: c122 :: c123 :: c124 :: c125 :: c126 :: c127 :: c128 :: c129 :: c130 :: c131 :: c132 :: c133 :: c134 :: c135 :: c136 :: c137 :: c138 :: c139 :: c140 :: c141 :: c142 :: c143 :: c144 :: c145 :: c146 :: c147 :: c148 :: c149 :: c150 :: c151 :: c152 :: c153 :: c154 :: c155 :: c156 :: c157 :: c158 :: c159 :: c160 :: c161 :: c162 :: c163 :: c164 :: c165 :: c166 :: c167 :: c168 :: c169 :: c170 :: c171 :: c172 :: c173 :: c174 :: c175 :: c176 :: c177 :: c178 :: c179 :: c180 :: c181 :: c182 :: c183 :: c184 :: c185 :: c186 :: c187 :: c188 :: c189 :: c190 :: c191 :: c192 :: c193 :: c194 :: c195 :: c196 :: c197 :: c198 :: c199 :: c200 :: c201 :: c202 :: c203 :: c204 :: c205 :: c206 :: c207 :: c208 :: c209 :: c210 :: c211 :: c212 :: c213 :: c214 :: c215 :: c216 :: c217 :: c218 :: c219 :: c220 :: c221 :: c222 :: c223 :: c224 :: c225 :: c226 :: c227 :: c228 :: c229 :: c230 :: c231 :: c232 :: c233 :: c234 :: c235 :: c236 :: c237 :: c238 :: c239 :: c240 :: c241 :: c242 :: c243 :: c244 :: c245 :: c246 :: c247 :: c248 :: c249 :: c250 :: c251 :: c252 :: c253 :: c254 :: c255 :: c256 :: c257 :: c258 :: c259 :: c260 :: c261 :: c262 :: c263 :: c264 :: c265 :: c266 :: c267 :: c268 :: c269 :: c270 :: c271 :: c272 :: c273 :: c274 :: c275 :: c276 :: c277 :: c278 :: c279 :: c280 :: c281 :: c282 :: c283 :: []), []⟩ w := by
  have HE := Lib.hid hexit
  have HT := Lib.hid ht
  clear hexit ht
  have hs0 : Words w H 65 (addK ss ts 0) := by rw [addK_zero ss ts hsl]; exact hs
  conv => arg 2; arg 1; whnf
  go_loopw [28] (fun i wr => ∃ (k : Nat), k ≤ 8 ∧ i = .int .i64 (k : Int) ∧ Words wr H 65 (addK ss ts k) ∧ Turn (fun q => q = H) w wr) (fun i _ => 8 - (intOf i).toNat)
  case atStart => exact ⟨0, Nat.zero_le _, rfl, hs0, Turn.refl _ w⟩
  case round =>
    clear hs hs0
    obtain ⟨k, hk', rfl, hW, hT⟩ := hrel
    by_cases hlt : k < 8
    · have cx := hW.cell k (by rw [addK_len]; exact hlt)
      rw [addK_at ss ts k k hlt, if_neg (by omega)] at cx
      have cy := (HT.out.turn hT (fun e => hne e.symm)).cell k (by omega)
      have hf := hW.open_ k
      have hW2 := hW.set k (add32 (ss.getD k 0) (ts.getD k 0))
      rw [addK_set ss ts k hlt] at hW2
      have t2 := hT.setCell (p := ⟨H, k, none⟩) (fun _ => rfl) (.int .u32 (add32 (ss.getD k 0) (ts.getD k 0)))
      have HW2 := Lib.hid hW2
      have T2 := Lib.hid t2
      have gm : 0 ≤ (k : Int) ∧ (k : Int) < 8 := by omega
      have dl : decide ((k : Int) < 8) = true := by simp; omega
      have ea : IntKind.u32.wrap (ss.getD k 0 + ts.getD k 0) = add32 (ss.getD k 0) (ts.getD k 0) := IntKind.wrap_u32 _
      generalize ss.getD k 0 = x at cx HW2 T2 ea
      generalize ts.getD k 0 = y at cy HW2 T2 ea
      have EA := Lib.hid ea
      have cx' : wr.drew.cell? ⟨H, k, none⟩ = some (.int .u32 x) := cx
      have cy' : wr.drew.cell? ⟨L, k, none⟩ = some (.int .u32 y) := cy
      have hf' : wr.drew.frozen? ⟨H, k, none⟩ = false := hf
      clear hW hW2 t2 hT ea
      go_wp2_with fail
      go_region
      go_wp2_with fail
      go_roundw
      case rel => exact ⟨k + 1, by omega, by go_num, HW2.out, T2.out.drew⟩
      case measure => simp [intOf]; omega
    · have dl : decide ((k : Int) < 8) = false := by simp; omega
      have hk8 : k = 8 := by omega
      have HW := Lib.hid hW
      have HTT := Lib.hid hT
      have HK8 := Lib.hid hk8
      clear hW hT hk8
      go_wp2_with fail
      exact HE.out _ _ _ _ _ _ _ _ _ _ _ _ _ _ _ _ (HK8.out ▸ HW.out) HTT.out
end Go.Proofs.YtboofamenpcnhaaGreatDoor.RefT
