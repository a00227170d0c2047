/- Own texts, packed: TRefO. -/
import Derived.Test.YtboofamenpcnhaaGreatDoorV46
import Derived.Test.YtboofamenpcnhaaGreatDoorV47
import Derived.Test.YtboofamenpcnhaaGreatDoorV48
namespace Go.Proofs.YtboofamenpcnhaaGreatDoor.RefT
open Go.RowKit
set_option linter.unusedVariables false
set_option linter.unusedSimpArgs false
def eightL (s : Eight) : List Int := [s.a, s.b, s.c, s.d, s.e, s.f, s.g, s.h]
theorem addK_plus (s t : Eight) : addK (eightL s) (eightL t) 8 = eightL (plusE s t) := by
  simp [addK, eightL, List.range_succ, plusE]
theorem blk_at (ps : List Int) (o i : Nat) (hi : i < 64) : ((ps.drop o).take 64).getD i 0 = ps.getD (o + i) 0 := by
  simp [List.getD, List.getElem?_take, hi]
theorem byts_blk (ps : List Int) (o : Nat) (h : Byts ps) : Byts ((ps.drop o).take 64) := fun i => by
  by_cases hi : i < 64
  · rw [blk_at ps o i hi]; exact h _
  · simp [List.getD, List.getElem?_take, hi]
theorem stirN_e (ks : List Int) (f : Eight) (ps : List Int) (hf : 0 ≤ f.e ∧ f.e < 4294967296) : ∀ n, 0 ≤ (stirN ks f ps n).e ∧ (stirN ks f ps n).e < 4294967296
  | 0 => hf
  | n + 1 => ⟨Int.emod_nonneg _ (by omega), Int.emod_lt_of_pos _ (by omega)⟩
set_option maxHeartbeats 8000000 in
set_option maxRecDepth 1000000 in
theorem ref_outer (B H M lm cm nb : Nat) (ks ps : List Int) (f : Eight) (c0 c1 c2 c6 c7 c9 c10 c11 c12 c13 c14 c15 c16 c17 c18 c19 c20 c21 c22 c23 c24 c25 c26 c27 c28 c29 c30 c31 c32 c33 c34 c35 c36 c37 c38 c39 c40 c41 c42 c43 c44 c45 c46 c47 c48 c49 c50 c51 c52 c53 c54 c55 c56 c57 c58 c59 c60 c61 c62 c63 c64 c65 c66 c67 c68 c69 c70 c71 c72 c73 c74 c75 c76 c77 c78 c79 c80 c81 c82 c83 c84 c85 c86 c87 c88 c89 c90 c91 c92 c93 c94 c95 c96 c97 c98 c99 c100 c101 c102 c103 c104 c105 c106 c107 c108 c109 c110 c111 c112 c113 c114 c115 c116 c117 c118 c119 c120 c121 c122 c123 c124 c125 c126 c127 c128 c129 c130 c131 c132 c133 c134 c135 c136 c137 c138 c139 c140 c141 c142 c143 c144 c145 c146 c147 c148 c149 c150 c151 c152 c153 c154 c155 c156 c157 c158 c159 c160 c161 c162 c163 c164 c165 c166 c167 c168 c169 c170 c171 c172 c173 c174 c175 c176 c177 c178 c179 c180 c181 c182 c183 c184 c185 c186 c187 c188 c189 c190 c191 c192 c193 c194 c195 c196 c197 c198 c199 c200 c201 c202 c203 c204 c205 c206 c207 c208 c209 c210 c211 c212 c213 c214 c215 c216 c217 c218 c219 c220 c221 c222 c223 c224 c225 c226 c227 c228 c229 c230 c231 c232 c233 c234 c235 c236 c237 c238 c239 c240 c241 c242 c243 c244 c245 c246 c247 c248 c249 c250 c251 c252 c253 c254 c255 c256 c257 c258 c259 c260 c261 c262 c263 c264 c265 c266 c267 c268 c269 c270 c271 c272 c273 c274 c275 c276 c277 c278 c279 c280 c281 c282 c283 : Value) (w : World) (Q0 : Exit → Act → World → Prop)
    (hQ : ∀ e (a : Act) d v w', Q0 (.panic e) (a.put d v) w' → Q0 (.panic e) a w') (hks : ks.length = 64) (hB : Words w B 65 ks) (hH : Words w H 65 (eightL f)) (hps : Byts ps) (hm : ∀ i, i < lm → w.cell? ⟨M, i, none⟩ = some (.int .u8 (ps.getD i 0)))
    (hMw : M < w.heap.size) (hHB : B ≠ H) (hHM : M ≠ H) (hlm : lm = 64 * nb) (hnb : nb ≤ 1000) (hf : 0 ≤ f.e ∧ f.e < 4294967296)
    (hexit : ∀ (u8 u9 u10 u11 u12 u13 u14 u15 u16 u17 u18 u19 u20 u21 u22 u23 u24 u25 u26 u27 u28 u61 u62 u63 u64 u65 u66 u67 u68 u69 u70 u71 u72 u73 u74 u75 u76 u77 u78 u79 u80 u81 u82 u83 u84 u85 u86 u87 u88 u89 u90 u91 u92 u93 u94 u95 u96 u97 u98 u99 u100 u101 u102 u103 u104 u105 u106 u107 u108 u109 u110 u111 u112 u113 u114 u115 u116 u117 u118 u119 u120 u121 u122 u123 u124 u125 u126 u127 u128 u129 u130 u131 u132 u133 u134 u135 u136 u137 u138 u139 u140 u141 u142 u143 u144 u145 u146 u147 u148 u149 u150 u151 u152 u153 u154 u155 u156 u157 u158 u159 u160 u161 u162 u163 u164 u165 u166 u167 u168 u169 u170 u171 u172 u173 u174 u175 u176 u177 u178 u179 u180 u181 u182 u183 u184 u185 u186 u187 u188 u189 u190 u191 u192 u193 u194 u195 u196 u197 u198 u199 u200 u201 u202 u203 u204 u205 u206 u207 u208 u209 u210 u211 u212 u213 u214 u215 u216 u217 u218 u219 u220 u221 u222 u223 u224 u225 u226 u227 u228 u229 u230 u231 u232 u233 u234 u235 u236 u237 u238 u239 u240 u241 u242 u243 u244 u245 u246 u247 u248 u249 u250 u251 u252 u253 u254 u255 u256 u257 u258 u259 u260 u261 u262 u263 u264 u265 : Value) (w' : World), Words w' H 65 (eightL (stirN ks f ps nb)) → Turn (fun q => q = H) w w' → Q0 (.exit 4) ⟨List.toArray (c0 :: c1 :: c2 :: (.slice (some ⟨B, 0, none⟩) 64 64) :: (.slice (some ⟨H, 0, none⟩) 8 8) :: (.slice (some ⟨M, 0, none⟩) lm cm) :: c6 :: c7 :: u8 :: u9 :: u10 :: u11 :: u12 :: u13 :: u14 :: u15 :: u16 :: u17 :: u18 :: u19 :: u20 :: u21 :: u22 :: u23 :: u24 :: u25 :: u26 :: u27 :: u28 :: c29 :: c30 :: c31 :: c32 :: c33 :: c34 :: c35 :: c36 :: c37 :: c38 :: c39 :: c40 :: c41 :: c42 :: c43 :: c44 :: c45 :: c46 :: c47 :: c48 :: c49 :: c50 :: c51 :: c52 :: c53 :: c54 :: c55 :: c56 :: c57 :: c58 :: c59 :: c60 :: u61 :: u62 :: u63 :: u64 :: u65 :: u66 :: u67 :: u68 :: u69 :: u70 :: u71 :: u72 :: u73 :: u74 :: u75 :: u76 :: u77 :: u78 :: u79 :: u80 :: u81 :: u82 :: u83 :: u84 :: u85 :: u86 :: u87 :: u88 :: u89 :: u90 :: u91 :: u92 :: u93 :: u94 :: u95 :: u96 :: u97 :: u98 :: u99 :: u100 :: u101 :: u102 :: u103 :: u104 :: u105 :: u106 :: u107 :: u108 :: u109 :: u110 :: u111 :: u112 :: u113 :: u114 :: u115 :: u116 :: u117 :: u118 :: u119 :: u120 :: u121 :: u122 :: u123 :: u124 :: u125 :: u126 :: u127 :: u128 :: u129 :: u130 :: u131 :: u132 :: u133 :: u134 :: u135 :: u136 :: u137 :: u138 :: u139 :: u140 :: u141 :: u142 :: u143 :: u144 :: u145 :: u146 :: u147 :: u148 :: u149 :: u150 :: u151 :: u152 :: u153 :: u154 :: u155 :: u156 :: u157 :: u158 :: u159 :: u160 :: u161 :: u162 :: u163 :: u164 :: u165 :: u166 :: u167 :: u168 :: u169 :: u170 :: u171 :: u172 :: u173 :: u174 :: u175 :: u176 :: u177 :: u178 :: u179 :: u180 :: u181 :: u182 :: u183 :: u184 :: u185 :: u186 :: u187 :: u188 :: u189 :: u190 :: u191 :: u192 :: u193 :: u194 :: u195 :: u196 :: u197 :: u198 :: u199 :: u200 :: u201 :: u202 :: u203 :: u204 :: u205 :: u206 :: u207 :: u208 :: u209 :: u210 :: u211 :: u212 :: u213 :: u214 :: u215 :: u216 :: u217 :: u218 :: u219 :: u220 :: u221 :: u222 :: u223 :: u224 :: u225 :: u226 :: u227 :: u228 :: u229 :: u230 :: u231 :: u232 :: u233 :: u234 :: u235 :: u236 :: u237 :: u238 :: u239 :: u240 :: u241 :: u242 :: u243 :: u244 :: u245 :: u246 :: u247 :: u248 :: u249 :: u250 :: u251 :: u252 :: u253 :: u254 :: u255 :: u256 :: u257 :: u258 :: u259 :: u260 :: u261 :: u262 :: u263 :: u264 :: u265 :: c266 :: c267 :: c268 :: c269 :: c270 :: c271 :: c272 :: c273 :: c274 :: c275 :: c276 :: c277 :: c278 :: c279 :: c280 :: c281 :: c282 :: c283 :: []), []⟩ w') :
    Code.wp Tryz.prog (.loop (refBody 2)) Q0 ⟨List.toArray (c0 :: c1 :: c2 :: (.slice (some ⟨B, 0, none⟩) 64 64) :: (.slice (some ⟨H, 0, none⟩) 8 8) :: (.slice (some ⟨M, 0, none⟩) lm cm) :: c6 :: c7 :: (.int .i64 0) :: c9 :: c10 :: c11 :: c12 :: c13 :: c14 :: c15 :: c16 :: c17 :: c18 :: c19 :: c20 :: c21 :: c22 :: c23 :: c24 :: c25 :: c26 :: c27 :: c28 :: c29 :: c30 :: c31 :: c32 :: c33 :: c34 :: c35 :: c36 :: c37 :: c38 :: c39 :: c40 :: c41 :: c42 :: c43 :: c44 :: c45 :: c46 :: c47 :: c48 :: c49 :: c50 :: c51 :: c52 :: c53 :: c54 :: c55 :: c56 :: c57 :: c58 :: c59 :: c60 :: c61 :: c62 :: c63 :: c64 :: c65 :: c66 :: c67 :: c68 :: c69 :: c70 :: c71 :: c72 :: c73 :: c74 :: c75 :: c76 :: c77 :: c78 :: c79 :: c80 :: c81 :: c82 :: c83 :: c84 :: c85 :: c86 :: c87 :: c88 :: c89 :: c90 :: c91 :: c92 :: c93 :: c94 :: c95 :: c96 :: c97 :: c98 :: c99 :: c100 :: c101 :: c102 :: c103 :: c104 :: c105 :: c106 :: c107 :: c108 :: c109 :: c110 :: c111 :: c112 :: c113 :: c114 :: c115 :: c116 :: c117 :: c118 :: c119 :: c120 :: c121 :: c122 :: c123 :: c124 :: c125 :: c126 :: c127 :: c128 :: c129 :: c130 :: c131 :: c132 :: c133 :: c134 :: c135 :: c136 :: c137 :: c138 :: c139 :: c140 :: c141 :: c142 :: c143 :: c144 :: c145 :: c146 :: c147 :: c148 :: c149 :: c150 :: c151 :: c152 :: c153 :: c154 :: c155 :: c156 :: c157 :: c158 :: c159 :: c160 :: c161 :: c162 :: c163 :: c164 :: c165 :: c166 :: c167 :: c168 :: c169 :: c170 :: c171 :: c172 :: c173 :: c174 :: c175 :: c176 :: c177 :: c178 :: c179 :: c180 :: c181 :: c182 :: c183 :: c184 :: c185 :: c186 :: c187 :: c188 :: c189 :: c190 :: c191 :: c192 :: c193 :: c194 :: c195 :: c196 :: c197 :: c198 :: c199 :: c200 :: c201 :: c202 :: c203 :: c204 :: c205 :: c206 :: c207 :: c208 :: c209 :: c210 :: c211 :: c212 :: c213 :: c214 :: c215 :: c216 :: c217 :: c218 :: c219 :: c220 :: c221 :: c222 :: c223 :: c224 :: c225 :: c226 :: c227 :: c228 :: c229 :: c230 :: c231 :: c232 :: c233 :: c234 :: c235 :: c236 :: c237 :: c238 :: c239 :: c240 :: c241 :: c242 :: c243 :: c244 :: c245 :: c246 :: c247 :: c248 :: c249 :: c250 :: c251 :: c252 :: c253 :: c254 :: c255 :: c256 :: c257 :: c258 :: c259 :: c260 :: c261 :: c262 :: c263 :: c264 :: c265 :: c266 :: c267 :: c268 :: c269 :: c270 :: c271 :: c272 :: c273 :: c274 :: c275 :: c276 :: c277 :: c278 :: c279 :: c280 :: c281 :: c282 :: c283 :: []), []⟩ w := by
  have HE := Lib.hid hexit
  have HQ := Lib.hid hQ
  have HB := Lib.hid hB
  have HM := Lib.hid hm
  have HPS := Lib.hid hps
  have HLM := Lib.hid hlm
  clear hexit hQ hB hm hps
  have hl2 : lm ≤ 100000 := by omega
  clear hlm
  conv => arg 2; arg 1; whnf
  go_loopw [8] (fun i wr => ∃ (n : Nat), n ≤ nb ∧ i = .int .i64 ((64 * n : Nat) : Int) ∧ Words wr H 65 (eightL (stirN ks f ps n)) ∧ Turn (fun q => q = H) w wr) (fun i _ => lm - (intOf i).toNat)
  case atStart => exact ⟨0, Nat.zero_le _, rfl, hH, Turn.refl _ w⟩
  case round =>
    obtain ⟨n, hn, rfl, hW, hT⟩ := hrel
    have HW := Lib.hid hW
    have HT := Lib.hid hT
    clear hW hT hH
    obtain ⟨o, ho⟩ : ∃ o, 64 * n = o := ⟨_, rfl⟩
    simp only [ho]
    by_cases hlt : n < nb
    · have dl : decide ((o : Int) < (lm : Int)) = true := by have := HLM.out; simp; omega
      have hol : o + 64 ≤ lm := by have := HLM.out; omega
      have HOO := Lib.hid ho
      clear ho
      go_wp2_with fail
      have hsz := HT.out.size
      refine ref_words M lm cm o ((ps.drop o).take 64) _ _ _ _ _ _ _ _ _ _ _ _ _ _ _ _ _ _ _ _ _ _ _ _ _ _ _ _ _ _ _ _ _ _ _ _ _ _ _ _ _ _ _ _ _ _ _ _ _ _ _ _ _ _ _ _ _ _ _ _ _ _ _ _ _ _ _ _ _ _ _ _ _ _ _ _ _ _ _ _ _ _ _ _ _ _ _ _ _ _ _ _ _ _ _ _ _ _ _ _ _ _ _ _ _ _ _ _ _ _ _ _ _ _ _ _ _ _ _ _ _ _ _ _ _ _ _ _ _ _ _ _ _ _ _ _ _ _ _ _ _ _ _ _ _ _ _ _ _ _ _ _ _ _ _ _ _ _ _ _ _ _ _ _ _ _ _ _ _ _ _ _ _ _ _ _ _ _ _ _ _ _ _ _ _ _ _ _ _ _ _ _ _ _ _ _ _ _ _ _ _ _ _ _ _ _ _ _ _ _ _ _ _ _ _ _ _ _ _ _ _ _ _ _ _ _ _ _ _ _ _ _ _ _ _ _ _ _ _ _ _ _ _ _ _ _ _ _ _ _ _ _ _ _ _ _ _ _ _ _ _ _ _ _ _ _ _ _ _ _ _ _ _ _ _ _ _ _ _ _ wr _ (byts_blk ps o HPS.out) (fun i hi => ?_) hol hl2 (by omega) ?_
      · rw [blk_at ps o i hi]
        exact (HT.out.cell (p := ⟨M, o + i, none⟩) hMw hHM).trans (HM.out (o + i) (by omega))
      intro _ _ _ _ _ _ _ _ _ _ _ _ _ _ _ _ _ _ _ _ _ _ _ _ _ _ _ _ a1 c1 w1 ho1 t1
      have HO1 := Lib.hid ho1
      have T1 := Lib.hid t1
      clear ho1 t1
      go_wp2_with fail
      refine ref_ext wr a1 c1 ((ps.drop o).take 64) _ _ _ _ _ _ _ _ _ _ _ _ _ _ _ _ _ _ _ _ _ _ _ _ _ _ _ _ _ _ _ _ _ _ _ _ _ _ _ _ _ _ _ _ _ _ _ _ _ _ _ _ _ _ _ _ _ _ _ _ _ _ _ _ _ _ _ _ _ _ _ _ _ _ _ _ _ _ _ _ _ _ _ _ _ _ _ _ _ _ _ _ _ _ _ _ _ _ _ _ _ _ _ _ _ _ _ _ _ _ _ _ _ _ _ _ _ _ _ _ _ _ _ _ _ _ _ _ _ _ _ _ _ _ _ _ _ _ _ _ _ _ _ _ _ _ _ _ _ _ _ _ _ _ _ _ _ _ _ _ _ _ _ _ _ _ _ _ _ _ _ _ _ _ _ _ _ _ _ _ _ _ _ _ _ _ _ _ _ _ _ _ _ _ _ _ _ _ _ _ _ _ _ _ _ _ _ _ _ _ _ _ _ _ _ _ _ _ _ _ _ _ _ _ _ _ _ _ _ _ _ _ _ _ _ _ _ _ _ _ _ _ _ _ _ _ _ _ _ _ _ _ _ _ _ _ _ _ _ _ _ _ _ _ _ _ _ _ _ _ _ _ _ _ _ _ _ _ _ _ _ _ w1 _ (fun _ _ _ _ _ h => HQ.out _ _ _ _ _ h) HO1.out T1.out ?_
      intro _ _ _ _ _ _ _ _ _ _ _ _ _ _ _ _ _ _ _ _ _ _ _ _ _ _ _ _ _ _ _ _ _ _ _ _ _ _ _ _ _ _ _ _ _ _ _ _ _ _ _ _ _ _ _ _ _ _ _ _ _ _ _ _ _ a2 q2 w2 ho2 t2
      obtain ⟨g, q2', hv, hgb, hglt⟩ := own_some39 ho2 (by omega)
      cases hv
      have hHlt : H < wr.heap.size := HW.out.lt
      have hW2 := HW.out.turn t2 id
      obtain ⟨s, hs⟩ : ∃ s, stirN ks f ps n = s := ⟨_, rfl⟩
      have hse := stirN_e ks f ps hf n
      rw [hs] at hW2 hse
      have HS := Lib.hid hs
      have k0 : w2.cell? ⟨H, 0, none⟩ = some (.int .u32 s.a) := hW2.cell 0 (by simp [eightL])
      have k1 : w2.cell? ⟨H, 1, none⟩ = some (.int .u32 s.b) := hW2.cell 1 (by simp [eightL])
      have k2 : w2.cell? ⟨H, 2, none⟩ = some (.int .u32 s.c) := hW2.cell 2 (by simp [eightL])
      have k3 : w2.cell? ⟨H, 3, none⟩ = some (.int .u32 s.d) := hW2.cell 3 (by simp [eightL])
      have k4 : w2.cell? ⟨H, 4, none⟩ = some (.int .u32 s.e) := hW2.cell 4 (by simp [eightL])
      have k5 : w2.cell? ⟨H, 5, none⟩ = some (.int .u32 s.f) := hW2.cell 5 (by simp [eightL])
      have k6 : w2.cell? ⟨H, 6, none⟩ = some (.int .u32 s.g) := hW2.cell 6 (by simp [eightL])
      have k7 : w2.cell? ⟨H, 7, none⟩ = some (.int .u32 s.h) := hW2.cell 7 (by simp [eightL])
      have HW2 := Lib.hid hW2
      have HO2 := Lib.hid ho2
      have T2 := Lib.hid t2
      clear HO1 T1 hs hW2 ho2 t2
      go_wp2_with fail
      refine ref_rounds B g q2 ks (sched ((ps.drop o).take 64) 48) s.a s.b s.c s.d s.e s.f s.g s.h _ _ _ _ _ _ _ _ _ _ _ _ _ _ _ _ _ _ _ _ _ _ _ _ _ _ _ _ _ _ _ _ _ _ _ _ _ _ _ _ _ _ _ _ _ _ _ _ _ _ _ _ _ _ _ _ _ _ _ _ _ _ _ _ _ _ _ _ _ _ _ _ _ _ _ _ _ _ _ _ _ _ _ _ _ _ _ _ _ _ _ _ _ _ _ _ _ _ _ _ _ _ _ _ _ _ _ _ _ _ _ _ _ _ _ _ _ _ _ _ _ _ _ _ _ _ _ _ _ _ _ _ _ _ _ _ _ _ _ _ _ _ _ _ _ _ _ _ _ _ _ _ _ _ _ _ _ _ _ _ _ _ _ _ _ _ _ _ _ _ _ _ _ _ _ _ _ _ _ _ _ _ _ _ _ _ _ _ _ _ _ _ _ _ _ _ _ _ _ _ _ _ _ _ _ _ _ _ _ _ _ _ _ _ _ _ _ _ _ _ _ _ _ _ _ _ _ _ _ _ _ _ _ _ _ _ _ _ _ _ _ _ _ _ _ _ _ _ _ _ _ _ _ _ _ _ _ _ _ _ _ _ _ _ _ _ _ _ _ _ _ _ _ w2 _ (fun i hi => ?_) (fun i hi => own_cell39 HO2.out i hi) hse ?_
      · have hBlt : B < w.heap.size := HB.out.lt
        exact ((HB.out.turn HT.out hHB).turn T2.out id).cell i (by omega)
      clear k0 k1 k2 k3 k4 k5 k6 k7
      intro _ _ _ _ _ _ _ _ _ _ _ _ _ _ _ _ _ _ _ _ _ _ _ _ _ _ _ _ _ _ _ _ _ _ _ _ _ _ _ _ _ _ _ _ _ _ _ _ _ _ _ _ _ _ _ _ _ _ _ _ _ _ _ _ _ _ _ _ ra rb rc rd re rf rg rh w3 hrn hS
      have HRN := Lib.hid hrn
      have W3 : Words w3 H 65 (eightL s) := by unfold Words; rw [hS.heap]; exact HW2.out
      have T3 := Lib.hid (T2.out.trans hS.turn (fun _ _ => id))
      have HW3 := Lib.hid W3
      clear hrn W3 hS HW2 HO2 T2
      go_wp2_with fail
      obtain ⟨w4, hw4⟩ : ∃ w4, w3.alloc (.cells #[.int .u32 ra, .int .u32 rb, .int .u32 rc, .int .u32 rd, .int .u32 re, .int .u32 rf, .int .u32 rg, .int .u32 rh] 65) = w4 := ⟨_, rfl⟩
      have L4 : Words w4 w3.heap.size 65 (eightL ⟨ra, rb, rc, rd, re, rf, rg, rh⟩) := by rw [← hw4]; exact heap_alloc_new w3 _
      have t4 : Turn (fun _ => False) w3 w4 := by rw [← hw4]; exact (Turn.refl _ w3).alloc _
      have hH3 := HW3.out.lt
      have W4 := HW3.out.turn t4 id
      have T4 := Lib.hid (T3.out.trans t4 (fun _ _ => id))
      have HW4 := Lib.hid W4
      have HL4 := Lib.hid L4
      try rw [hw4]
      clear hw4 L4 W4 t4 T3 HW3
      refine ref_adds H w3.heap.size (eightL s) (eightL ⟨ra, rb, rc, rd, re, rf, rg, rh⟩) _ _ _ _ _ _ _ _ _ _ _ _ _ _ _ _ _ _ _ _ _ _ _ _ _ _ _ _ _ _ _ _ _ _ _ _ _ _ _ _ _ _ _ _ _ _ _ _ _ _ _ _ _ _ _ _ _ _ _ _ _ _ _ _ _ _ _ _ _ _ _ _ _ _ _ _ _ _ _ _ _ _ _ _ _ _ _ _ _ _ _ _ _ _ _ _ _ _ _ _ _ _ _ _ _ _ _ _ _ _ _ _ _ _ _ _ _ _ _ _ _ _ _ _ _ _ _ _ _ _ _ _ _ _ _ _ _ _ _ _ _ _ _ _ _ _ _ _ _ _ _ _ _ _ _ _ _ _ _ _ _ _ _ _ _ _ _ _ _ _ _ _ _ _ _ _ _ _ _ _ _ _ _ _ _ _ _ _ _ _ _ _ _ _ _ _ _ _ _ _ _ _ _ _ _ _ _ _ _ _ _ _ _ _ _ _ _ _ _ _ _ _ _ _ _ _ _ _ _ _ _ _ _ _ _ _ _ _ _ _ _ _ _ _ _ _ _ _ _ _ _ _ _ _ _ _ _ _ _ _ _ _ _ _ _ _ _ _ _ _ _ _ _ _ _ _ _ _ _ _ _ w4 _ HW4.out HL4.out rfl rfl (by omega) ?_
      intro _ _ _ _ _ _ _ _ _ _ _ _ _ _ _ w5 hW5 t5
      rw [addK_plus] at hW5
      have T5 := Lib.hid ((HT.out.trans T4.out (fun _ _ h => h.elim)).trans t5 (fun _ _ h => h))
      have HW5 := Lib.hid hW5
      clear hW5 t5 T4 HW4 HL4
      go_wp2_with fail
      go_roundw
      case rel =>
        refine ⟨n + 1, by omega, ?_, ?_, T5.out⟩
        · have := HOO.out; subst this; go_num
        · have e : stirN ks f ps (n + 1) = plusE s ⟨ra, rb, rc, rd, re, rf, rg, rh⟩ := by
            rw [stirN, HS.out, stepE, HOO.out, HRN.out]
          rw [e]; exact HW5.out
      case measure => have := HOO.out; simp [intOf]; omega
    · have dl : decide ((o : Int) < (lm : Int)) = false := by have := HLM.out; simp; omega
      have dl2 : decide (o < lm) = false := by have := HLM.out; simp; omega
      have dl3 : ¬ o < lm := by have := HLM.out; omega
      have dl4 : lm ≤ o := by omega
      have hnn : n = nb := by omega
      have hw := HW.out
      rw [hnn] at hw
      have HW6 := Lib.hid hw
      have HOO := Lib.hid ho
      clear ho hw hnn
      go_wp2_with fail
      exact HE.out _ _ _ _ _ _ _ _ _ _ _ _ _ _ _ _ _ _ _ _ _ _ _ _ _ _ _ _ _ _ _ _ _ _ _ _ _ _ _ _ _ _ _ _ _ _ _ _ _ _ _ _ _ _ _ _ _ _ _ _ _ _ _ _ _ _ _ _ _ _ _ _ _ _ _ _ _ _ _ _ _ _ _ _ _ _ _ _ _ _ _ _ _ _ _ _ _ _ _ _ _ _ _ _ _ _ _ _ _ _ _ _ _ _ _ _ _ _ _ _ _ _ _ _ _ _ _ _ _ _ _ _ _ _ _ _ _ _ _ _ _ _ _ _ _ _ _ _ _ _ _ _ _ _ _ _ _ _ _ _ _ _ _ _ _ _ _ _ _ _ _ _ _ _ _ _ _ _ _ _ _ _ _ _ _ _ _ _ _ _ _ _ _ _ _ _ _ _ _ _ _ _ _ _ _ _ _ _ _ _ _ _ _ _ _ _ _ _ _ _ _ _ _ _ _ _ _ HW6.out HT.out
end Go.Proofs.YtboofamenpcnhaaGreatDoor.RefT
