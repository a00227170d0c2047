/- Own texts, packed: Ic, Io, Sa, Sg, Sb, Sd, Se, Mf, Sf, Sh. -/
import Derived.Test.YtnenkclihgeacaaDoorP24
import Derived.Test.YtnenkclihgeacaaDoorP25
import Derived.Test.YtnenkclihgeacaaDoorP22
import Derived.Test.YtnenkclihgeacaaDoorP20
import Derived.Test.YtnenkclihgeacaaDoorP02
/- Own contracts: behind an act that was not stopped. No statement is proved here. -/
namespace Go.Proofs.YtnenkclihgeacaaDoor
set_option maxRecDepth 100000
open Go.RowKit
set_option linter.unusedVariables false
set_option linter.unusedSimpArgs false

/-- A table, what its sectors tell, and the list beside it. -/
structure Now (W w : World) (B : Nat) (F : Nat → Prop) (T J D : Nat) (d : DiskM) (L : Nat) (C : List (List Int)) (n : Nat) (rs l : List Rf) : Prop where
  lb : LB w B F T J D d L C n rs
  good : GoodR rs 12
  tells : Tells C rs
  bes : Beside rs l
  turn : Turn (fun _ => False) W w
  base : W.heap.size ≤ B
/-- A row of refs beside it, of the law's own. -/
structure Own (w : World) (F : Nat → Prop) (J T : Nat) (v : Value) (l : List Rf) : Prop where
  row : RowV w v l
  off : ∀ q, v.ownBlock = some q → 0 < l.length → q < w.heap.size ∧ ¬ Mn F J T q
theorem Own.turn0 {w w' : World} {F : Nat → Prop} {J T : Nat} {v : Value} {l : List Rf} (h : Own w F J T v l) (t : Turn (fun _ => False) w w') : Own w' F J T v l := ⟨h.row.turn t (fun _ _ => id), fun q h1 h2 => ⟨Nat.lt_of_lt_of_le (h.off q h1 h2).1 t.size, (h.off q h1 h2).2⟩⟩
theorem Own.step {w w' : World} {F F' : Nat → Prop} {J J' T T' : Nat} {v : Value} {l : List Rf} (h : Own w F J T v l) (t : Turn (Mn F J T) w w') (hg : ∀ k, Mn F' J' T' k → Mn F J T k ∨ w.heap.size ≤ k) : Own w' F' J' T' v l := by
  refine ⟨⟨h.row.ok, ?_⟩, fun q h1 h2 => ⟨Nat.lt_of_lt_of_le (h.off q h1 h2).1 t.size, fun hm => ?_⟩⟩
  · rcases h.row.at_ with ⟨c, h1, h2⟩ | ⟨g, o, c, h1, h2, h3, h4⟩
    · exact .inl ⟨c, h1, h2⟩
    · refine .inr ⟨g, o, c, h1, h2, fun h0 => Nat.lt_of_lt_of_le (h3 h0) t.size, fun k hk => rangeAt_turn (h4 k hk) t ?_⟩
      exact (h.off g (by rw [h1]; rfl) (by omega)).2
  · rcases hg q hm with hm | hm
    · exact (h.off q h1 h2).2 hm
    · have := (h.off q h1 h2).1; omega
theorem Now.turn0 {W w w' : World} {B : Nat} {F : Nat → Prop} {T J D : Nat} {d : DiskM} {L : Nat} {C : List (List Int)} {n : Nat} {rs l : List Rf} (h : Now W w B F T J D d L C n rs l) (t : Turn (fun _ => False) w w') : Now W w' B F T J D d L C n rs l := { h with lb := h.lb.turn0 t, turn := h.turn.trans t (fun _ _ => id) }
theorem Now.less {W w : World} {B : Nat} {F : Nat → Prop} {T J D : Nat} {d : DiskM} {L : Nat} {C : List (List Int)} {n m : Nat} {rs l : List Rf} (h : Now W w B F T J D d L C n rs l) (hm : m ≤ n) : Now W w B F T J D d L C m rs l := { h with lb := h.lb.less hm }
set_option maxHeartbeats 16000000 in
/-- Nothing was stopped. -/
theorem if_calm (u1 u5 u10 u11 u15 u16 u17 u18 u19 u20 u21 u22 u23 u24 u25 u26 u27 u28 u29 u30 u31 u32 u33 u34 u35 u36 u37 u38 u39 u40 u41 u42 u43 u44 u45 u46 u47 u48 u49 u50 u51 u52 u53 u54 u55 u56 u57 u58 u59 u60 u61 u62 u63 u64 u65 u66 u67 u68 u69 u70 u71 u72 u73 u74 u75 u76 u77 u78 u79 u80 u81 u82 u83 u84 u85 u86 u87 u88 u89 u90 u91 u92 u93 u94 u95 u96 u97 u98 u99 u100 u101 u102 u103 u104 u105 u106 u107 u108 u109 u110 u111 u112 u113 u114 u115 u116 u117 u118 u119 u120 u121 u122 u123 u124 u125 u126 u127 u128 u129 u130 u131 u132 u133 u134 u135 u136 u137 u138 u139 u140 u141 u142 u143 u144 u145 u146 u147 u148 u149 u150 u151 u152 u153 u154 u155 u156 u157 u158 u159 u160 u161 u162 u163 u164 u165 u166 u167 u168 u169 u170 u171 u172 u173 u174 u175 u176 u177 u178 u179 u180 u181 u182 u183 u184 u185 u186 u187 u188 u189 u190 u191 u192 u193 u194 u195 u196 u197 u198 u199 u200 u201 u202 u203 u204 u205 u206 u207 u208 u209 u210 u211 u212 u213 u214 u215 u216 u217 u218 u219 u220 u221 u222 u223 u224 u225 u226 u227 u228 u229 u230 u231 u232 u233 u234 u235 u236 u237 u238 u239 u240 u241 u242 u243 u244 u245 u246 u247 u248 u249 u250 u251 u252 u253 u254 u255 u256 u257 u258 u259 u260 u261 u262 u263 u264 u265 av nv : Value) (W w : World) (B : Nat) (F : Nat → Prop) (T J D : Nat) (d : DiskM) (L : Nat) (C : List (List Int)) (nn : Nat) (rs l nx : List Rf) (la : Option Addr) (n lc i X : Nat) (s : ByteArray) (wt : Int)
    (hw9 : wt ≠ 9) (hn : l.length = n) (h : (wt = 0 ∧ Now W w B F T J D d L C nn rs nx ∧ Own w F J T nv nx) ∨ (wt ≠ 0 ∧ Now W w B F T J D d L C nn rs l ∧ Own w F J T (.slice la n lc) l)) (A : Act → World → Prop) (hA : ∀ (v1 v5 v8 v10 v11 v12 v13 v14 v15 v16 v17 v18 v19 v20 v21 v22 v23 v24 v25 v26 v27 v28 v29 v30 v31 v32 v33 v34 v35 v36 v37 v38 v39 v40 v41 v42 v43 v44 v45 v46 v47 v48 v49 v50 v51 v52 v53 v54 v55 v56 v57 v58 v59 v60 v61 v62 v63 v64 v65 v66 v67 v68 v69 v70 v71 v72 v73 v74 v75 v76 v77 v78 v79 v80 v81 v82 v83 v84 v85 v86 v87 v88 v89 v90 v91 v92 v93 v94 v95 v96 v97 v98 v99 v100 v101 v102 v103 v104 v105 v106 v107 v108 v109 v110 v111 v112 v113 v114 v115 v116 v117 v118 v119 v120 v121 v122 v123 v124 v125 v126 v127 v128 v129 v130 v131 v132 v133 v134 v135 v136 v137 v138 v139 v140 v141 v142 v143 v144 v145 v146 v147 v148 v149 v150 v151 v152 v153 v154 v155 v156 v157 v158 v159 v160 v161 v162 v163 v164 v165 v166 v167 v168 v169 v170 v171 v172 v173 v174 v175 v176 v177 v178 v179 v180 v181 v182 v183 v184 v185 v186 v187 v188 v189 v190 v191 v192 v193 v194 v195 v196 v197 v198 v199 v200 v201 v202 v203 v204 v205 v206 v207 v208 v209 v210 v211 v212 v213 v214 v215 v216 v217 v218 v219 v220 v221 v222 v223 v224 v225 v226 v227 v228 v229 v230 v231 v232 v233 v234 v235 v236 v237 v238 v239 v240 v241 v242 v243 v244 v245 v246 v247 v248 v249 v250 v251 v252 v253 v254 v255 v256 v257 v258 v259 v260 v261 v262 v263 v264 v265 : Value) (T2 : Nat) (lv2 : Value) (l2 rs2 : List Rf) (F2 : Nat → Prop) (J2 : Nat) (d2 : DiskM) (L2 : Nat) (C2 : List (List Int)) (w' : World), Now W w' B F2 T2 J2 D d2 L2 C2 nn rs2 l2 → Own w' F2 J2 T2 lv2 l2 → A { tmps := List.toArray (av :: v1 :: .bool false :: .pointer (some ⟨D, 0, none⟩) :: .pointer (some ⟨T2, 0, none⟩) :: v5 :: lv2 :: .int .i64 (i : Int) :: v8 :: .string s :: v10 :: v11 :: v12 :: v13 :: v14 :: v15 :: v16 :: v17 :: v18 :: v19 :: v20 :: v21 :: v22 :: v23 :: v24 :: v25 :: v26 :: v27 :: v28 :: v29 :: v30 :: v31 :: v32 :: v33 :: v34 :: v35 :: v36 :: v37 :: v38 :: v39 :: v40 :: v41 :: v42 :: v43 :: v44 :: v45 :: v46 :: v47 :: v48 :: v49 :: v50 :: v51 :: v52 :: v53 :: v54 :: v55 :: v56 :: v57 :: v58 :: v59 :: v60 :: v61 :: v62 :: v63 :: v64 :: v65 :: v66 :: v67 :: v68 :: v69 :: v70 :: v71 :: v72 :: v73 :: v74 :: v75 :: v76 :: v77 :: v78 :: v79 :: v80 :: v81 :: v82 :: v83 :: v84 :: v85 :: v86 :: v87 :: v88 :: v89 :: v90 :: v91 :: v92 :: v93 :: v94 :: v95 :: v96 :: v97 :: v98 :: v99 :: v100 :: v101 :: v102 :: v103 :: v104 :: v105 :: v106 :: v107 :: v108 :: v109 :: v110 :: v111 :: v112 :: v113 :: v114 :: v115 :: v116 :: v117 :: v118 :: v119 :: v120 :: v121 :: v122 :: v123 :: v124 :: v125 :: v126 :: v127 :: v128 :: v129 :: v130 :: v131 :: v132 :: v133 :: v134 :: v135 :: v136 :: v137 :: v138 :: v139 :: v140 :: v141 :: v142 :: v143 :: v144 :: v145 :: v146 :: v147 :: v148 :: v149 :: v150 :: v151 :: v152 :: v153 :: v154 :: v155 :: v156 :: v157 :: v158 :: v159 :: v160 :: v161 :: v162 :: v163 :: v164 :: v165 :: v166 :: v167 :: v168 :: v169 :: v170 :: v171 :: v172 :: v173 :: v174 :: v175 :: v176 :: v177 :: v178 :: v179 :: v180 :: v181 :: v182 :: v183 :: v184 :: v185 :: v186 :: v187 :: v188 :: v189 :: v190 :: v191 :: v192 :: v193 :: v194 :: v195 :: v196 :: v197 :: v198 :: v199 :: v200 :: v201 :: v202 :: v203 :: v204 :: v205 :: v206 :: v207 :: v208 :: v209 :: v210 :: v211 :: v212 :: v213 :: v214 :: v215 :: v216 :: v217 :: v218 :: v219 :: v220 :: v221 :: v222 :: v223 :: v224 :: v225 :: v226 :: v227 :: v228 :: v229 :: v230 :: v231 :: v232 :: v233 :: v234 :: v235 :: v236 :: v237 :: v238 :: v239 :: v240 :: v241 :: v242 :: v243 :: v244 :: v245 :: v246 :: v247 :: v248 :: v249 :: v250 :: v251 :: v252 :: v253 :: v254 :: v255 :: v256 :: v257 :: v258 :: v259 :: v260 :: v261 :: v262 :: v263 :: v264 :: v265 :: []), defers := [] } w') :
    Code.wp Tryd.prog (plC [1, 1, 1, 1, 1, 0, 1, 0, 0, 1, 0, 0, 1, 1, 1, 1, 1, 1, 1, 1, 1, 0]) (Exit.then A fun _ _ _ => False) { tmps := List.toArray (av :: u1 :: .bool false :: .pointer (some ⟨D, 0, none⟩) :: .pointer (some ⟨T, 0, none⟩) :: u5 :: .slice la n lc :: .int .i64 (i : Int) :: .pointer (some ⟨X, 0, none⟩) :: .string s :: u10 :: u11 :: nv :: .int .i64 wt :: .int .i64 wt :: u15 :: u16 :: u17 :: u18 :: u19 :: u20 :: u21 :: u22 :: u23 :: u24 :: u25 :: u26 :: u27 :: u28 :: u29 :: u30 :: u31 :: u32 :: u33 :: u34 :: u35 :: u36 :: u37 :: u38 :: u39 :: u40 :: u41 :: u42 :: u43 :: u44 :: u45 :: u46 :: u47 :: u48 :: u49 :: u50 :: u51 :: u52 :: u53 :: u54 :: u55 :: u56 :: u57 :: u58 :: u59 :: u60 :: u61 :: u62 :: u63 :: u64 :: u65 :: u66 :: u67 :: u68 :: u69 :: u70 :: u71 :: u72 :: u73 :: u74 :: u75 :: u76 :: u77 :: u78 :: u79 :: u80 :: u81 :: u82 :: u83 :: u84 :: u85 :: u86 :: u87 :: u88 :: u89 :: u90 :: u91 :: u92 :: u93 :: u94 :: u95 :: u96 :: u97 :: u98 :: u99 :: u100 :: u101 :: u102 :: u103 :: u104 :: u105 :: u106 :: u107 :: u108 :: u109 :: u110 :: u111 :: u112 :: u113 :: u114 :: u115 :: u116 :: u117 :: u118 :: u119 :: u120 :: u121 :: u122 :: u123 :: u124 :: u125 :: u126 :: u127 :: u128 :: u129 :: u130 :: u131 :: u132 :: u133 :: u134 :: u135 :: u136 :: u137 :: u138 :: u139 :: u140 :: u141 :: u142 :: u143 :: u144 :: u145 :: u146 :: u147 :: u148 :: u149 :: u150 :: u151 :: u152 :: u153 :: u154 :: u155 :: u156 :: u157 :: u158 :: u159 :: u160 :: u161 :: u162 :: u163 :: u164 :: u165 :: u166 :: u167 :: u168 :: u169 :: u170 :: u171 :: u172 :: u173 :: u174 :: u175 :: u176 :: u177 :: u178 :: u179 :: u180 :: u181 :: u182 :: u183 :: u184 :: u185 :: u186 :: u187 :: u188 :: u189 :: u190 :: u191 :: u192 :: u193 :: u194 :: u195 :: u196 :: u197 :: u198 :: u199 :: u200 :: u201 :: u202 :: u203 :: u204 :: u205 :: u206 :: u207 :: u208 :: u209 :: u210 :: u211 :: u212 :: u213 :: u214 :: u215 :: u216 :: u217 :: u218 :: u219 :: u220 :: u221 :: u222 :: u223 :: u224 :: u225 :: u226 :: u227 :: u228 :: u229 :: u230 :: u231 :: u232 :: u233 :: u234 :: u235 :: u236 :: u237 :: u238 :: u239 :: u240 :: u241 :: u242 :: u243 :: u244 :: u245 :: u246 :: u247 :: u248 :: u249 :: u250 :: u251 :: u252 :: u253 :: u254 :: u255 :: u256 :: u257 :: u258 :: u259 :: u260 :: u261 :: u262 :: u263 :: u264 :: u265 :: []), defers := [] } w := by
  have HA := Lib.hid hA
  have HH := Lib.hid h
  clear hA h
  have d9 : (wt == 9) = false := by simpa using hw9
  have dn : (wt != wt) = false := by simp
  conv => arg 2; whnf
  by_cases h0 : wt = 0
  · subst h0
    obtain ⟨_, h1, h2⟩ := HH.out.resolve_right (fun h => h.1 rfl)
    have H1 := Lib.hid h1
    have H2 := Lib.hid h2
    clear h1 h2 HH
    go_wp2_with fail
    exact HA.out _ _ _ _ _ _ _ _ _ _ _ _ _ _ _ _ _ _ _ _ _ _ _ _ _ _ _ _ _ _ _ _ _ _ _ _ _ _ _ _ _ _ _ _ _ _ _ _ _ _ _ _ _ _ _ _ _ _ _ _ _ _ _ _ _ _ _ _ _ _ _ _ _ _ _ _ _ _ _ _ _ _ _ _ _ _ _ _ _ _ _ _ _ _ _ _ _ _ _ _ _ _ _ _ _ _ _ _ _ _ _ _ _ _ _ _ _ _ _ _ _ _ _ _ _ _ _ _ _ _ _ _ _ _ _ _ _ _ _ _ _ _ _ _ _ _ _ _ _ _ _ _ _ _ _ _ _ _ _ _ _ _ _ _ _ _ _ _ _ _ _ _ _ _ _ _ _ _ _ _ _ _ _ _ _ _ _ _ _ _ _ _ _ _ _ _ _ _ _ _ _ _ _ _ _ _ _ _ _ _ _ _ _ _ _ _ _ _ _ _ _ _ _ _ _ _ _ _ _ _ _ _ _ _ _ _ _ _ _ _ _ _ _ _ _ _ _ _ _ _ _ _ _ _ _ _ _ _ _ _ _ _ _ _ _ _ _ _ _ H1.out H2.out
  · have d0 : (wt == 0) = false := by simpa using h0
    obtain ⟨_, h1, h2⟩ := HH.out.resolve_left (fun h => h0 h.1)
    have H1 := Lib.hid h1
    have H2 := Lib.hid h2
    clear h1 h2 HH
    go_wp2_with fail
    exact HA.out _ _ _ _ _ _ _ _ _ _ _ _ _ _ _ _ _ _ _ _ _ _ _ _ _ _ _ _ _ _ _ _ _ _ _ _ _ _ _ _ _ _ _ _ _ _ _ _ _ _ _ _ _ _ _ _ _ _ _ _ _ _ _ _ _ _ _ _ _ _ _ _ _ _ _ _ _ _ _ _ _ _ _ _ _ _ _ _ _ _ _ _ _ _ _ _ _ _ _ _ _ _ _ _ _ _ _ _ _ _ _ _ _ _ _ _ _ _ _ _ _ _ _ _ _ _ _ _ _ _ _ _ _ _ _ _ _ _ _ _ _ _ _ _ _ _ _ _ _ _ _ _ _ _ _ _ _ _ _ _ _ _ _ _ _ _ _ _ _ _ _ _ _ _ _ _ _ _ _ _ _ _ _ _ _ _ _ _ _ _ _ _ _ _ _ _ _ _ _ _ _ _ _ _ _ _ _ _ _ _ _ _ _ _ _ _ _ _ _ _ _ _ _ _ _ _ _ _ _ _ _ _ _ _ _ _ _ _ _ _ _ _ _ _ _ _ _ _ _ _ _ _ _ _ _ _ _ _ _ _ _ _ _ _ _ _ _ _ _ H1.out H2.out
end Go.Proofs.YtnenkclihgeacaaDoor
/- Own contracts: behind an act that was stopped. No statement is proved here. -/
namespace Go.Proofs.YtnenkclihgeacaaDoor
set_option maxRecDepth 100000
open Go.RowKit
set_option linter.unusedVariables false
set_option linter.unusedSimpArgs false

theorem act_m (a : ActM) (h : a.Ok) : a.vals[36]? = some a.mv := by
  rw [ActM.vals, List.getElem?_cons_succ, List.getElem?_cons_succ, List.getElem?_cons_succ, List.getElem?_append_right (by simp [h.klen])]
  simp [h.klen]
set_option maxHeartbeats 16000000 in
/-- The disk was stopped in the midst of a write. -/
theorem if_off (u1 u5 u10 u11 u15 u16 u17 u18 u19 u20 u21 u22 u23 u24 u25 u26 u27 u28 u29 u30 u31 u32 u33 u34 u35 u36 u37 u38 u39 u40 u41 u42 u43 u44 u45 u46 u47 u48 u49 u50 u51 u52 u53 u54 u55 u56 u57 u58 u59 u60 u61 u62 u63 u64 u65 u66 u67 u68 u69 u70 u71 u72 u73 u74 u75 u76 u77 u78 u79 u80 u81 u82 u83 u84 u85 u86 u87 u88 u89 u90 u91 u92 u93 u94 u95 u96 u97 u98 u99 u100 u101 u102 u103 u104 u105 u106 u107 u108 u109 u110 u111 u112 u113 u114 u115 u116 u117 u118 u119 u120 u121 u122 u123 u124 u125 u126 u127 u128 u129 u130 u131 u132 u133 u134 u135 u136 u137 u138 u139 u140 u141 u142 u143 u144 u145 u146 u147 u148 u149 u150 u151 u152 u153 u154 u155 u156 u157 u158 u159 u160 u161 u162 u163 u164 u165 u166 u167 u168 u169 u170 u171 u172 u173 u174 u175 u176 u177 u178 u179 u180 u181 u182 u183 u184 u185 u186 u187 u188 u189 u190 u191 u192 u193 u194 u195 u196 u197 u198 u199 u200 u201 u202 u203 u204 u205 u206 u207 u208 u209 u210 u211 u212 u213 u214 u215 u216 u217 u218 u219 u220 u221 u222 u223 u224 u225 u226 u227 u228 u229 u230 u231 u232 u233 u234 u235 u236 u237 u238 u239 u240 u241 u242 u243 u244 u245 u246 u247 u248 u249 u250 u251 u252 u253 u254 u255 u256 u257 u258 u259 u260 u261 u262 u263 u264 u265 av : Value) (na : Option Addr) (nl nc : Nat) (W w : World) (B : Nat) (F : Nat → Prop) (T J D : Nat) (d : DiskM) (L : Nat) (C C1 : List (List Int)) (nn : Nat) (rs rs1 l nx : List Rf) (la : Option Addr) (n lc i X : Nat) (s : ByteArray) (a : ActM)
    (h : Off w B F T J D d L C C1 (nn + 100) rs) (g : GoodR rs 12) (g1 : GoodR rs1 12) (ok : ∀ x ∈ rs, x.Ok) (ok1 : ∀ x ∈ rs1, x.Ok) (ht : Tells C rs) (ht1 : Tells C1 rs1) (hb : Beside rs l) (hb1 : Beside rs1 nx) (hn : l.length = n) (hnl : nx.length = nl)
    (hv : Own w F J T (.slice la n lc) l) (hv1 : Own w F J T (.slice na nl nc) nx) (hX : w.rangeAt X 0 a.vals) (haok : a.Ok) (hm : ArgB W a.mv a.ms) (hW : Turn (fun _ => False) W w) (hBW : W.heap.size ≤ B) (tab : Tab W) (A : Act → World → Prop) (hA : ∀ (v1 v5 v8 v10 v11 v12 v13 v14 v15 v16 v17 v18 v19 v20 v21 v22 v23 v24 v25 v26 v27 v28 v29 v30 v31 v32 v33 v34 v35 v36 v37 v38 v39 v40 v41 v42 v43 v44 v45 v46 v47 v48 v49 v50 v51 v52 v53 v54 v55 v56 v57 v58 v59 v60 v61 v62 v63 v64 v65 v66 v67 v68 v69 v70 v71 v72 v73 v74 v75 v76 v77 v78 v79 v80 v81 v82 v83 v84 v85 v86 v87 v88 v89 v90 v91 v92 v93 v94 v95 v96 v97 v98 v99 v100 v101 v102 v103 v104 v105 v106 v107 v108 v109 v110 v111 v112 v113 v114 v115 v116 v117 v118 v119 v120 v121 v122 v123 v124 v125 v126 v127 v128 v129 v130 v131 v132 v133 v134 v135 v136 v137 v138 v139 v140 v141 v142 v143 v144 v145 v146 v147 v148 v149 v150 v151 v152 v153 v154 v155 v156 v157 v158 v159 v160 v161 v162 v163 v164 v165 v166 v167 v168 v169 v170 v171 v172 v173 v174 v175 v176 v177 v178 v179 v180 v181 v182 v183 v184 v185 v186 v187 v188 v189 v190 v191 v192 v193 v194 v195 v196 v197 v198 v199 v200 v201 v202 v203 v204 v205 v206 v207 v208 v209 v210 v211 v212 v213 v214 v215 v216 v217 v218 v219 v220 v221 v222 v223 v224 v225 v226 v227 v228 v229 v230 v231 v232 v233 v234 v235 v236 v237 v238 v239 v240 v241 v242 v243 v244 v245 v246 v247 v248 v249 v250 v251 v252 v253 v254 v255 v256 v257 v258 v259 v260 v261 v262 v263 v264 v265 : Value) (T2 : Nat) (lv2 : Value) (l2 rs2 : List Rf) (F2 : Nat → Prop) (J2 : Nat) (d2 : DiskM) (L2 : Nat) (C2 : List (List Int)) (w' : World), Now W w' B F2 T2 J2 D d2 L2 C2 nn rs2 l2 → Own w' F2 J2 T2 lv2 l2 → A { tmps := List.toArray (av :: v1 :: .bool false :: .pointer (some ⟨D, 0, none⟩) :: .pointer (some ⟨T2, 0, none⟩) :: v5 :: lv2 :: .int .i64 (i : Int) :: v8 :: .string s :: v10 :: v11 :: v12 :: v13 :: v14 :: v15 :: v16 :: v17 :: v18 :: v19 :: v20 :: v21 :: v22 :: v23 :: v24 :: v25 :: v26 :: v27 :: v28 :: v29 :: v30 :: v31 :: v32 :: v33 :: v34 :: v35 :: v36 :: v37 :: v38 :: v39 :: v40 :: v41 :: v42 :: v43 :: v44 :: v45 :: v46 :: v47 :: v48 :: v49 :: v50 :: v51 :: v52 :: v53 :: v54 :: v55 :: v56 :: v57 :: v58 :: v59 :: v60 :: v61 :: v62 :: v63 :: v64 :: v65 :: v66 :: v67 :: v68 :: v69 :: v70 :: v71 :: v72 :: v73 :: v74 :: v75 :: v76 :: v77 :: v78 :: v79 :: v80 :: v81 :: v82 :: v83 :: v84 :: v85 :: v86 :: v87 :: v88 :: v89 :: v90 :: v91 :: v92 :: v93 :: v94 :: v95 :: v96 :: v97 :: v98 :: v99 :: v100 :: v101 :: v102 :: v103 :: v104 :: v105 :: v106 :: v107 :: v108 :: v109 :: v110 :: v111 :: v112 :: v113 :: v114 :: v115 :: v116 :: v117 :: v118 :: v119 :: v120 :: v121 :: v122 :: v123 :: v124 :: v125 :: v126 :: v127 :: v128 :: v129 :: v130 :: v131 :: v132 :: v133 :: v134 :: v135 :: v136 :: v137 :: v138 :: v139 :: v140 :: v141 :: v142 :: v143 :: v144 :: v145 :: v146 :: v147 :: v148 :: v149 :: v150 :: v151 :: v152 :: v153 :: v154 :: v155 :: v156 :: v157 :: v158 :: v159 :: v160 :: v161 :: v162 :: v163 :: v164 :: v165 :: v166 :: v167 :: v168 :: v169 :: v170 :: v171 :: v172 :: v173 :: v174 :: v175 :: v176 :: v177 :: v178 :: v179 :: v180 :: v181 :: v182 :: v183 :: v184 :: v185 :: v186 :: v187 :: v188 :: v189 :: v190 :: v191 :: v192 :: v193 :: v194 :: v195 :: v196 :: v197 :: v198 :: v199 :: v200 :: v201 :: v202 :: v203 :: v204 :: v205 :: v206 :: v207 :: v208 :: v209 :: v210 :: v211 :: v212 :: v213 :: v214 :: v215 :: v216 :: v217 :: v218 :: v219 :: v220 :: v221 :: v222 :: v223 :: v224 :: v225 :: v226 :: v227 :: v228 :: v229 :: v230 :: v231 :: v232 :: v233 :: v234 :: v235 :: v236 :: v237 :: v238 :: v239 :: v240 :: v241 :: v242 :: v243 :: v244 :: v245 :: v246 :: v247 :: v248 :: v249 :: v250 :: v251 :: v252 :: v253 :: v254 :: v255 :: v256 :: v257 :: v258 :: v259 :: v260 :: v261 :: v262 :: v263 :: v264 :: v265 :: []), defers := [] } w') :
    Code.wp Tryd.prog (plC [1, 1, 1, 1, 1, 0, 1, 0, 0, 1, 0, 0, 1, 1, 1, 1, 1, 1, 1, 1, 1, 0]) (Exit.then A fun _ _ _ => False) { tmps := List.toArray (av :: u1 :: .bool false :: .pointer (some ⟨D, 0, none⟩) :: .pointer (some ⟨T, 0, none⟩) :: u5 :: .slice la n lc :: .int .i64 (i : Int) :: .pointer (some ⟨X, 0, none⟩) :: .string s :: u10 :: u11 :: .slice na nl nc :: .int .i64 0 :: .int .i64 9 :: u15 :: u16 :: u17 :: u18 :: u19 :: u20 :: u21 :: u22 :: u23 :: u24 :: u25 :: u26 :: u27 :: u28 :: u29 :: u30 :: u31 :: u32 :: u33 :: u34 :: u35 :: u36 :: u37 :: u38 :: u39 :: u40 :: u41 :: u42 :: u43 :: u44 :: u45 :: u46 :: u47 :: u48 :: u49 :: u50 :: u51 :: u52 :: u53 :: u54 :: u55 :: u56 :: u57 :: u58 :: u59 :: u60 :: u61 :: u62 :: u63 :: u64 :: u65 :: u66 :: u67 :: u68 :: u69 :: u70 :: u71 :: u72 :: u73 :: u74 :: u75 :: u76 :: u77 :: u78 :: u79 :: u80 :: u81 :: u82 :: u83 :: u84 :: u85 :: u86 :: u87 :: u88 :: u89 :: u90 :: u91 :: u92 :: u93 :: u94 :: u95 :: u96 :: u97 :: u98 :: u99 :: u100 :: u101 :: u102 :: u103 :: u104 :: u105 :: u106 :: u107 :: u108 :: u109 :: u110 :: u111 :: u112 :: u113 :: u114 :: u115 :: u116 :: u117 :: u118 :: u119 :: u120 :: u121 :: u122 :: u123 :: u124 :: u125 :: u126 :: u127 :: u128 :: u129 :: u130 :: u131 :: u132 :: u133 :: u134 :: u135 :: u136 :: u137 :: u138 :: u139 :: u140 :: u141 :: u142 :: u143 :: u144 :: u145 :: u146 :: u147 :: u148 :: u149 :: u150 :: u151 :: u152 :: u153 :: u154 :: u155 :: u156 :: u157 :: u158 :: u159 :: u160 :: u161 :: u162 :: u163 :: u164 :: u165 :: u166 :: u167 :: u168 :: u169 :: u170 :: u171 :: u172 :: u173 :: u174 :: u175 :: u176 :: u177 :: u178 :: u179 :: u180 :: u181 :: u182 :: u183 :: u184 :: u185 :: u186 :: u187 :: u188 :: u189 :: u190 :: u191 :: u192 :: u193 :: u194 :: u195 :: u196 :: u197 :: u198 :: u199 :: u200 :: u201 :: u202 :: u203 :: u204 :: u205 :: u206 :: u207 :: u208 :: u209 :: u210 :: u211 :: u212 :: u213 :: u214 :: u215 :: u216 :: u217 :: u218 :: u219 :: u220 :: u221 :: u222 :: u223 :: u224 :: u225 :: u226 :: u227 :: u228 :: u229 :: u230 :: u231 :: u232 :: u233 :: u234 :: u235 :: u236 :: u237 :: u238 :: u239 :: u240 :: u241 :: u242 :: u243 :: u244 :: u245 :: u246 :: u247 :: u248 :: u249 :: u250 :: u251 :: u252 :: u253 :: u254 :: u255 :: u256 :: u257 :: u258 :: u259 :: u260 :: u261 :: u262 :: u263 :: u264 :: u265 :: []), defers := [] } w := by
  have HA := Lib.hid hA
  have HO := Lib.hid h
  have HG := Lib.hid g
  have HG1 := Lib.hid g1
  have HK := Lib.hid ok
  have HK1 := Lib.hid ok1
  have HTE := Lib.hid ht
  have HTE1 := Lib.hid ht1
  have HBE := Lib.hid hb
  have HBE1 := Lib.hid hb1
  have HN := Lib.hid hn
  have HNL := Lib.hid hnl
  have HV := Lib.hid hv
  have HV1 := Lib.hid hv1
  have HM := Lib.hid hm
  have HW := Lib.hid hW
  have HTAB := Lib.hid tab
  have cm : w.cell? ⟨X, 36, none⟩ = some a.mv := by have := hX 36 _ (act_m a haok); simpa using this
  obtain ⟨ma, mc, hmv, _⟩ := src_any hm.src
  rw [hmv] at cm
  have HMV := Lib.hid hmv
  have hl12 : n ≤ 12 := by rw [← hn, hb.perm.length_eq, ← g.len]; exact List.length_filter_le _ _
  have hl13 : nl ≤ 12 := by rw [← hnl, hb1.perm.length_eq, ← g1.len]; exact List.length_filter_le _ _
  clear hA h g g1 ok ok1 ht ht1 hb hb1 hn hnl hv hv1 hm hW tab hX hmv
  conv => arg 2; whnf
  go_wp2_with fail
  refine (crash_h2 w F J D d L C C1 (nn + 100) 9 true (.slice ma a.ms.length mc) a.ms HO.out.jh HO.out.room (.inr ⟨rfl, HO.out.left⟩) (by have := HO.out.len; omega) (by have := HO.out.len; have := HO.out.len'; omega)
    (by have h9 := HM.out.src.turn HW.out (fun _ _ => id); rwa [HMV.out] at h9)
    (fun h0 q hq hF => by
      have h9 := HM.out.old q (by rw [HMV.out]; exact hq) h0
      have := HO.out.bM q (.inl hF)
      omega) HM.out.ok (by have := HM.out.small; unfold maxLen at this; omega)).mono ?_
  rintro e w1 ⟨rfl, F1, d1, hdc, harm, hst⟩
  have hg1 : ∀ k, Mn F1 J T k → Mn F J T k ∨ w.heap.size ≤ k := fun k hk => by
    rcases hk with hk | hk
    · rcases hst.grown k hk with h | h
      · exact .inl (.inl h)
      · exact .inr h
    · exact .inl (.inr hk)
  have tM : Turn (Mn F J T) w w1 := hst.turn.mono (fun _ _ h => .inl h)
  have hBw : B ≤ w.heap.size := Nat.le_trans (HO.out.bM T (.inr (.inr rfl))) (Nat.le_of_lt HO.out.tb.lt)
  have HV2 := Lib.hid (HV.out.step tM hg1)
  have HV12 := Lib.hid (HV1.out.step tM hg1)
  have HF1 := Lib.hid (show ∀ k, F1 k → B ≤ k from fun k hk => by
    rcases hst.grown k hk with h | h
    · exact HO.out.bM k (.inl h)
    · omega)
  have HW1 := Lib.hid (show Turn (fun _ => False) W w1 from HW.out.trans hst.turn (fun k hk e => by have := HO.out.bM k (.inl e); omega))
  have hs1 := hst.turn.size
  have hlim := HO.out.lim
  have hlenC := HO.out.len
  have hlenC1 := HO.out.len'
  have hb2 := HO.out.b2
  clear hst hg1 tM cm
  rcases hdc with hdc | ⟨_, hdc⟩
  · have HDC := Lib.hid hdc
    clear hdc
    go_wp2_with fail
    refine (open_h w1 F1 D d1 L C1 nn HDC.out harm (by omega)).mono ?_
    rintro e w2 ⟨J2, F2, d2, L2, rfl, hj2, ha2, hJ2, hst2, hL2⟩
    have HJ2 := Lib.hid hj2
    have HF2 := Lib.hid (show ∀ k, F2 k → B ≤ k from fun k hk => by
      rcases hst2.grown k hk with h | h
      · exact HF1.out k h
      · omega)
    have HW2 := Lib.hid (show Turn (fun _ => False) W w2 from HW1.out.trans hst2.turn (fun k hk e => by have := HF1.out k e; omega))
    have HGR := Lib.hid (show ∀ k, F2 k → F1 k ∨ w1.heap.size ≤ k from hst2.grown)
    have HT12 := Lib.hid (show Turn (Mn F1 J T) w1 w2 from hst2.turn.mono (fun _ _ h => .inl h))
    clear hj2 hst2
    go_wp2_with fail
    refine (lopen_any w2 B F2 J2 D d2 L2 C1 nn HJ2.out (by omega) (HTAB.out.turn HW2.out) hb2 HF2.out (by omega)).mono ?_
    rintro e w3 ⟨t3, ⟨T3, rs3, hop, rfl, hT3, hlb3⟩ | ⟨hbad, _⟩⟩
    · obtain rfl : rs3 = rs1 := (opTo_all HG1.out HK1.out HTE1.out).1 rs3 hop
      have HLB3 := Lib.hid hlb3
      have hs12 := HT12.out.size
      have hgr3 : ∀ k, Mn F2 J2 T3 k → Mn F1 J T k ∨ w1.heap.size ≤ k := fun k hk => by
        rcases hk with hk | rfl | rfl
        · rcases HGR.out k hk with h | h
          · exact .inl (.inl h)
          · exact .inr h
        · exact .inr hJ2
        · exact .inr (by omega)
      have t13 : Turn (Mn F1 J T) w1 w3 := HT12.out.trans (t3.mono (fun _ _ h => h.elim)) (fun _ _ h => h)
      have HV3 := Lib.hid (HV2.out.step t13 hgr3)
      have HV13 := Lib.hid (HV12.out.step t13 hgr3)
      have HW3 := Lib.hid (HW2.out.trans t3 (fun _ _ => id))
      clear hlb3 hop hgr3 t13 t3
      go_wp2_with fail
      refine (all_any w3 T3 J2 rs3 HLB3.out.tb).mono ?_
      rintro e w4 ⟨gl, cl, l', rest, ex, rfl, hpm, hsr, hlc, hrb, hgl, t4⟩
      obtain rfl : l' = nx := HBE1.out.all HG1.out hpm hsr
      have hv4 := hrb.rowV hlc
      have HT4 := Lib.hid t4
      have HV4 := Lib.hid hv4
      clear hpm hsr hlc hrb t4 hv4
      obtain ⟨q, hq⟩ : ∃ q, l'.length = q := ⟨_, rfl⟩
      have HQ := Lib.hid hq
      have hv4 := HV4.out
      rw [hq] at hv4 ⊢
      have HV5 := Lib.hid hv4
      clear hq hv4
      go_wp2_with fail
      refine (same_any w4 _ _ _ _ HV5.out (HV3.out.row.turn HT4.out (fun _ _ => id)) (by have := HN.out; have := HNL.out; omega)).mono ?_
      rintro e w5 ⟨rfl, t5⟩
      have HT5 := Lib.hid (HT4.out.trans t5 (fun _ _ => id))
      clear t5
      by_cases he : l' = l
      · rw [decide_eq_true he]
        have HE := Lib.hid he
        clear he
        go_wp2_with fail
        exact HA.out _ _ _ _ _ _ _ _ _ _ _ _ _ _ _ _ _ _ _ _ _ _ _ _ _ _ _ _ _ _ _ _ _ _ _ _ _ _ _ _ _ _ _ _ _ _ _ _ _ _ _ _ _ _ _ _ _ _ _ _ _ _ _ _ _ _ _ _ _ _ _ _ _ _ _ _ _ _ _ _ _ _ _ _ _ _ _ _ _ _ _ _ _ _ _ _ _ _ _ _ _ _ _ _ _ _ _ _ _ _ _ _ _ _ _ _ _ _ _ _ _ _ _ _ _ _ _ _ _ _ _ _ _ _ _ _ _ _ _ _ _ _ _ _ _ _ _ _ _ _ _ _ _ _ _ _ _ _ _ _ _ _ _ _ _ _ _ _ _ _ _ _ _ _ _ _ _ _ _ _ _ _ _ _ _ _ _ _ _ _ _ _ _ _ _ _ _ _ _ _ _ _ _ _ _ _ _ _ _ _ _ _ _ _ _ _ _ _ _ _ _ _ _ _ _ _ _ _ _ _ _ _ _ _ _ _ _ _ _ _ _ _ _ _ _ _ _ _ _ _ _ _ _ _ _ _ _ _ _ _ _ _ _ _ _ _ _ _ _ ⟨HLB3.out.turn0 HT5.out, HG1.out, HTE1.out, by rw [← HE.out]; exact HBE1.out, HW3.out.trans HT5.out (fun _ _ => id), hBW⟩ (HV3.out.turn0 HT5.out)
      · rw [decide_eq_false he]
        clear he
        go_wp2_with fail
        exact HA.out _ _ _ _ _ _ _ _ _ _ _ _ _ _ _ _ _ _ _ _ _ _ _ _ _ _ _ _ _ _ _ _ _ _ _ _ _ _ _ _ _ _ _ _ _ _ _ _ _ _ _ _ _ _ _ _ _ _ _ _ _ _ _ _ _ _ _ _ _ _ _ _ _ _ _ _ _ _ _ _ _ _ _ _ _ _ _ _ _ _ _ _ _ _ _ _ _ _ _ _ _ _ _ _ _ _ _ _ _ _ _ _ _ _ _ _ _ _ _ _ _ _ _ _ _ _ _ _ _ _ _ _ _ _ _ _ _ _ _ _ _ _ _ _ _ _ _ _ _ _ _ _ _ _ _ _ _ _ _ _ _ _ _ _ _ _ _ _ _ _ _ _ _ _ _ _ _ _ _ _ _ _ _ _ _ _ _ _ _ _ _ _ _ _ _ _ _ _ _ _ _ _ _ _ _ _ _ _ _ _ _ _ _ _ _ _ _ _ _ _ _ _ _ _ _ _ _ _ _ _ _ _ _ _ _ _ _ _ _ _ _ _ _ _ _ _ _ _ _ _ _ _ _ _ _ _ _ _ _ _ _ _ _ _ _ _ _ _ _ ⟨HLB3.out.turn0 HT5.out, HG1.out, HTE1.out, HBE1.out, HW3.out.trans HT5.out (fun _ _ => id), hBW⟩ (HV13.out.turn0 HT5.out)
    · exact absurd hbad (opTo_all HG1.out HK1.out HTE1.out).2
  · have HDC := Lib.hid hdc
    clear hdc
    go_wp2_with fail
    refine (open_h w1 F1 D d1 L C nn HDC.out harm (by omega)).mono ?_
    rintro e w2 ⟨J2, F2, d2, L2, rfl, hj2, ha2, hJ2, hst2, hL2⟩
    have HJ2 := Lib.hid hj2
    have HF2 := Lib.hid (show ∀ k, F2 k → B ≤ k from fun k hk => by
      rcases hst2.grown k hk with h | h
      · exact HF1.out k h
      · omega)
    have HW2 := Lib.hid (show Turn (fun _ => False) W w2 from HW1.out.trans hst2.turn (fun k hk e => by have := HF1.out k e; omega))
    have HGR := Lib.hid (show ∀ k, F2 k → F1 k ∨ w1.heap.size ≤ k from hst2.grown)
    have HT12 := Lib.hid (show Turn (Mn F1 J T) w1 w2 from hst2.turn.mono (fun _ _ h => .inl h))
    clear hj2 hst2
    go_wp2_with fail
    refine (lopen_any w2 B F2 J2 D d2 L2 C nn HJ2.out (by omega) (HTAB.out.turn HW2.out) hb2 HF2.out (by omega)).mono ?_
    rintro e w3 ⟨t3, ⟨T3, rs3, hop, rfl, hT3, hlb3⟩ | ⟨hbad, _⟩⟩
    · obtain rfl : rs3 = rs := (opTo_all HG.out HK.out HTE.out).1 rs3 hop
      have HLB3 := Lib.hid hlb3
      have hs12 := HT12.out.size
      have hgr3 : ∀ k, Mn F2 J2 T3 k → Mn F1 J T k ∨ w1.heap.size ≤ k := fun k hk => by
        rcases hk with hk | rfl | rfl
        · rcases HGR.out k hk with h | h
          · exact .inl (.inl h)
          · exact .inr h
        · exact .inr hJ2
        · exact .inr (by omega)
      have t13 : Turn (Mn F1 J T) w1 w3 := HT12.out.trans (t3.mono (fun _ _ h => h.elim)) (fun _ _ h => h)
      have HV3 := Lib.hid (HV2.out.step t13 hgr3)
      have HV13 := Lib.hid (HV12.out.step t13 hgr3)
      have HW3 := Lib.hid (HW2.out.trans t3 (fun _ _ => id))
      clear hlb3 hop hgr3 t13 t3
      go_wp2_with fail
      refine (all_any w3 T3 J2 rs3 HLB3.out.tb).mono ?_
      rintro e w4 ⟨gl, cl, l', rest, ex, rfl, hpm, hsr, hlc, hrb, hgl, t4⟩
      obtain rfl : l' = l := HBE.out.all HG.out hpm hsr
      have hv4 := hrb.rowV hlc
      have HT4 := Lib.hid t4
      have HV4 := Lib.hid hv4
      clear hpm hsr hlc hrb t4 hv4
      obtain ⟨q, hq⟩ : ∃ q, l'.length = q := ⟨_, rfl⟩
      have HQ := Lib.hid hq
      have hv4 := HV4.out
      rw [hq] at hv4 ⊢
      have HV5 := Lib.hid hv4
      clear hq hv4
      go_wp2_with fail
      refine (same_any w4 _ _ _ _ HV5.out (HV3.out.row.turn HT4.out (fun _ _ => id)) (by have := HN.out; have := HNL.out; omega)).mono ?_
      rintro e w5 ⟨rfl, t5⟩
      have HT5 := Lib.hid (HT4.out.trans t5 (fun _ _ => id))
      clear t5
      rw [decide_eq_true rfl]
      go_wp2_with fail
      exact HA.out _ _ _ _ _ _ _ _ _ _ _ _ _ _ _ _ _ _ _ _ _ _ _ _ _ _ _ _ _ _ _ _ _ _ _ _ _ _ _ _ _ _ _ _ _ _ _ _ _ _ _ _ _ _ _ _ _ _ _ _ _ _ _ _ _ _ _ _ _ _ _ _ _ _ _ _ _ _ _ _ _ _ _ _ _ _ _ _ _ _ _ _ _ _ _ _ _ _ _ _ _ _ _ _ _ _ _ _ _ _ _ _ _ _ _ _ _ _ _ _ _ _ _ _ _ _ _ _ _ _ _ _ _ _ _ _ _ _ _ _ _ _ _ _ _ _ _ _ _ _ _ _ _ _ _ _ _ _ _ _ _ _ _ _ _ _ _ _ _ _ _ _ _ _ _ _ _ _ _ _ _ _ _ _ _ _ _ _ _ _ _ _ _ _ _ _ _ _ _ _ _ _ _ _ _ _ _ _ _ _ _ _ _ _ _ _ _ _ _ _ _ _ _ _ _ _ _ _ _ _ _ _ _ _ _ _ _ _ _ _ _ _ _ _ _ _ _ _ _ _ _ _ _ _ _ _ _ _ _ _ _ _ _ _ _ _ _ _ _ ⟨HLB3.out.turn0 HT5.out, HG.out, HTE.out, HBE.out, HW3.out.trans HT5.out (fun _ _ => id), hBW⟩ (HV3.out.turn0 HT5.out)
    · exact absurd hbad (opTo_all HG.out HK.out HTE.out).2
end Go.Proofs.YtnenkclihgeacaaDoor
/- Own contracts: an act that arms the disk. No statement is proved here. -/
namespace Go.Proofs.YtnenkclihgeacaaDoor
set_option maxRecDepth 100000
open Go.RowKit
set_option linter.unusedVariables false
set_option linter.unusedSimpArgs false

/-- What the switch leaves. -/
def Sw (W w : World) (B D nn : Nat) (l : List Rf) (lv : Value) (T : Nat) (nv : Value) (wt ea : Int) : Prop :=
  (ea = wt ∧ wt ≠ 9 ∧ ((wt = 0 ∧ ∃ F J d L C rs nx, Now W w B F T J D d L C nn rs nx ∧ Own w F J T nv nx) ∨ (wt ≠ 0 ∧ ∃ F J d L C rs, Now W w B F T J D d L C nn rs l ∧ Own w F J T lv l))) ∨
  (ea = 9 ∧ wt = 0 ∧ ∃ F J d L C C1 rs rs1 nx, Off w B F T J D d L C C1 (nn + 100) rs ∧ GoodR rs 12 ∧ GoodR rs1 12 ∧ (∀ x ∈ rs, x.Ok) ∧ (∀ x ∈ rs1, x.Ok) ∧ Tells C rs ∧ Tells C1 rs1 ∧ Beside rs l ∧ Beside rs1 nx ∧ Own w F J T lv l ∧ Own w F J T nv nx ∧ Turn (fun _ => False) W w ∧ W.heap.size ≤ B)
/-- Only the disk has turned. -/
theorem LB.jstep {w w' : World} {B : Nat} {F F' : Nat → Prop} {T J D : Nat} {d d' : DiskM} {L : Nat} {C : List (List Int)} {n m : Nat} {rs : List Rf} (h : LB w B F T J D d L C n rs) (hj : JC w' F' J D d' L C m) (hs : Step w F w' F') : LB w' B F' T J D d' L C m rs ∧ (∀ k, Mn F' J T k → Mn F J T k ∨ w.heap.size ≤ k) ∧ Turn (Mn F J T) w w' := by
  have hBw : B ≤ w.heap.size := Nat.le_trans (h.bM T (.inr (.inr rfl))) (Nat.le_of_lt h.tb.lt)
  have hb2 := h.b2
  have hTl := h.tb.lt
  have hg : ∀ k, Mn F' J T k → Mn F J T k ∨ w.heap.size ≤ k := fun k hk => by
    rcases hk with hk | hk
    · rcases hs.grown k hk with h1 | h1
      · exact .inl (.inl h1)
      · exact .inr h1
    · exact .inl (.inr hk)
  refine ⟨⟨h.tb.turn hs.turn h.nFT, hj, h.len, tab_turn h.tab hs.turn (fun e => by have := h.bM 1 (.inl e); omega), h.b2, fun k hk => ?_, fun hF => ?_, h.nTJ⟩, hg, hs.turn.mono (fun _ _ h => .inl h)⟩
  · rcases hg k hk with h1 | h1
    · exact h.bM k h1
    · omega
  · rcases hs.grown T hF with h1 | h1
    · exact h.nFT h1
    · omega
theorem own_rows_turn {w w' : World} {b : Nat} {v : Value} {n : Nat} {xs : List Value} {G : Nat → Prop} (h : w.ownsRow b 37 34 v n xs) (t : Turn G w w') (hn : ∀ q, v.ownBlock = some q → ¬ G q) : w'.ownsRow b 37 34 v n xs := by
  refine ⟨h.1, ?_⟩
  rcases h.2 with h1 | ⟨g, cap, cur, h1, h2, h3, h4⟩
  · exact .inl h1
  · exact .inr ⟨g, cap, cur, h1, h2, (t.block g (Array.getElem?_eq_some_iff.1 h3).1 (hn g (by rw [h1]; rfl))).trans h3, h4⟩
theorem act_n (a : ActM) : a.vals[1]? = some (.int .u8 (a.n : Int)) := rfl
theorem act_k (a : ActM) : a.vals[0]? = some (.int .u8 (a.k : Int)) := rfl
theorem mod_facts (q m : Nat) (hm : 0 < m) (hq : q < 256) : ((q : Int)).tmod (m : Int) = ((q % m : Nat) : Int) ∧ (q : Int) % (m : Int) = ((q % m : Nat) : Int) ∧ IntKind.u8.wrap ((q % m : Nat) : Int) = ((q % m : Nat) : Int) := by
  have h1 : q % m ≤ q := Nat.mod_le _ _
  refine ⟨by rw [Int.tmod_eq_emod_of_nonneg (by omega)]; exact (Int.natCast_emod q m).symm, (Int.natCast_emod q m).symm, by rw [IntKind.wrap_u8]; omega⟩
set_option maxHeartbeats 16000000 in
theorem sw_arm (u1 u5 u11 u15 u16 u17 u18 u19 u20 u21 u22 u23 u24 u25 u26 u27 u28 u29 u30 u31 u32 u33 u34 u35 u36 u37 u38 u39 u40 u41 u42 u43 u44 u45 u46 u47 u48 u49 u50 u51 u52 u53 u54 u55 u56 u57 u58 u59 u60 u61 u62 u63 u64 u65 u66 u67 u68 u69 u70 u71 u72 u73 u74 u75 u76 u77 u78 u79 u80 u81 u82 u83 u84 u85 u86 u87 u88 u89 u90 u91 u92 u93 u94 u95 u96 u97 u98 u99 u100 u101 u102 u103 u104 u105 u106 u107 u108 u109 u110 u111 u112 u113 u114 u115 u116 u117 u118 u119 u120 u121 u122 u123 u124 u125 u126 u127 u128 u129 u130 u131 u132 u133 u134 u135 u136 u137 u138 u139 u140 u141 u142 u143 u144 u145 u146 u147 u148 u149 u150 u151 u152 u153 u154 u155 u156 u157 u158 u159 u160 u161 u162 u163 u164 u165 u166 u167 u168 u169 u170 u171 u172 u173 u174 u175 u176 u177 u178 u179 u180 u181 u182 u183 u184 u185 u186 u187 u188 u189 u190 u191 u192 u193 u194 u195 u196 u197 u198 u199 u200 u201 u202 u203 u204 u205 u206 u207 u208 u209 u210 u211 u212 u213 u214 u215 u216 u217 u218 u219 u220 u221 u222 u223 u224 u225 u226 u227 u228 u229 u230 u231 u232 u233 u234 u235 u236 u237 u238 u239 u240 u241 u242 u243 u244 u245 u246 u247 u248 u249 u250 u251 u252 u253 u254 u255 u256 u257 u258 u259 u260 u261 u262 u263 u264 u265 av : Value) (W w : World) (B : Nat) (F : Nat → Prop) (T J D : Nat) (d : DiskM) (L : Nat) (C : List (List Int)) (nn : Nat) (rs l : List Rf) (la na : Option Addr) (n lc nc i X : Nat) (s : ByteArray) (at_ : Int) (a : ActM)
    (h : Now W w B F T J D d L C (nn + 400) rs l) (hn : l.length = n) (hv : Own w F J T (.slice la n lc) l) (Pb : Nat) (hnv : w.ownsRow Pb 37 34 (.slice na n nc) n (rfsV l)) (hnm : ∀ q, (Value.slice na n nc).ownBlock = some q → q < w.heap.size ∧ ¬ Mn F J T q ∧ W.heap.size ≤ q ∧ q ≠ X ∧ (∀ p, (Value.slice la n lc).ownBlock = some p → p ≠ q)) (hX : w.rangeAt X 0 a.vals) (hXm : X < w.heap.size ∧ ¬ Mn F J T X) (hs : s = a.nm) (haok : a.Ok) (hnsz : s.size ≤ 9223372036854775807) (tab : Tab W)
    (hat : (at_ = -1 ∧ ∀ x ∈ l, x.name ≠ s) ∨ ∃ p : Nat, p < n ∧ at_ = (p : Int) ∧ (l.getD p rf0).name = s) (A : Act → World → Prop)
    (hA : ∀ (v1 v5 v10 v11 v15 v16 v17 v18 v19 v20 v21 v22 v23 v24 v25 v26 v27 v28 v29 v30 v31 v32 v33 v34 v35 v36 v37 v38 v39 v40 v41 v42 v43 v44 v45 v46 v47 v48 v49 v50 v51 v52 v53 v54 v55 v56 v57 v58 v59 v60 v61 v62 v63 v64 v65 v66 v67 v68 v69 v70 v71 v72 v73 v74 v75 v76 v77 v78 v79 v80 v81 v82 v83 v84 v85 v86 v87 v88 v89 v90 v91 v92 v93 v94 v95 v96 v97 v98 v99 v100 v101 v102 v103 v104 v105 v106 v107 v108 v109 v110 v111 v112 v113 v114 v115 v116 v117 v118 v119 v120 v121 v122 v123 v124 v125 v126 v127 v128 v129 v130 v131 v132 v133 v134 v135 v136 v137 v138 v139 v140 v141 v142 v143 v144 v145 v146 v147 v148 v149 v150 v151 v152 v153 v154 v155 v156 v157 v158 v159 v160 v161 v162 v163 v164 v165 v166 v167 v168 v169 v170 v171 v172 v173 v174 v175 v176 v177 v178 v179 v180 v181 v182 v183 v184 v185 v186 v187 v188 v189 v190 v191 v192 v193 v194 v195 v196 v197 v198 v199 v200 v201 v202 v203 v204 v205 v206 v207 v208 v209 v210 v211 v212 v213 v214 v215 v216 v217 v218 v219 v220 v221 v222 v223 v224 v225 v226 v227 v228 v229 v230 v231 v232 v233 v234 v235 v236 v237 v238 v239 v240 v241 v242 v243 v244 v245 v246 v247 v248 v249 v250 v251 v252 v253 v254 v255 v256 v257 v258 v259 v260 v261 v262 v263 v264 v265 : Value) (T1 : Nat) (nv1 : Value) (wt ea : Int) (w' : World), w'.rangeAt X 0 a.vals → Sw W w' B D nn l (.slice la n lc) T1 nv1 wt ea → A { tmps := List.toArray (av :: v1 :: .bool false :: .pointer (some ⟨D, 0, none⟩) :: .pointer (some ⟨T1, 0, none⟩) :: v5 :: .slice la n lc :: .int .i64 (i : Int) :: .pointer (some ⟨X, 0, none⟩) :: .string s :: v10 :: v11 :: nv1 :: .int .i64 wt :: .int .i64 ea :: v15 :: v16 :: v17 :: v18 :: v19 :: v20 :: v21 :: v22 :: v23 :: v24 :: v25 :: v26 :: v27 :: v28 :: v29 :: v30 :: v31 :: v32 :: v33 :: v34 :: v35 :: v36 :: v37 :: v38 :: v39 :: v40 :: v41 :: v42 :: v43 :: v44 :: v45 :: v46 :: v47 :: v48 :: v49 :: v50 :: v51 :: v52 :: v53 :: v54 :: v55 :: v56 :: v57 :: v58 :: v59 :: v60 :: v61 :: v62 :: v63 :: v64 :: v65 :: v66 :: v67 :: v68 :: v69 :: v70 :: v71 :: v72 :: v73 :: v74 :: v75 :: v76 :: v77 :: v78 :: v79 :: v80 :: v81 :: v82 :: v83 :: v84 :: v85 :: v86 :: v87 :: v88 :: v89 :: v90 :: v91 :: v92 :: v93 :: v94 :: v95 :: v96 :: v97 :: v98 :: v99 :: v100 :: v101 :: v102 :: v103 :: v104 :: v105 :: v106 :: v107 :: v108 :: v109 :: v110 :: v111 :: v112 :: v113 :: v114 :: v115 :: v116 :: v117 :: v118 :: v119 :: v120 :: v121 :: v122 :: v123 :: v124 :: v125 :: v126 :: v127 :: v128 :: v129 :: v130 :: v131 :: v132 :: v133 :: v134 :: v135 :: v136 :: v137 :: v138 :: v139 :: v140 :: v141 :: v142 :: v143 :: v144 :: v145 :: v146 :: v147 :: v148 :: v149 :: v150 :: v151 :: v152 :: v153 :: v154 :: v155 :: v156 :: v157 :: v158 :: v159 :: v160 :: v161 :: v162 :: v163 :: v164 :: v165 :: v166 :: v167 :: v168 :: v169 :: v170 :: v171 :: v172 :: v173 :: v174 :: v175 :: v176 :: v177 :: v178 :: v179 :: v180 :: v181 :: v182 :: v183 :: v184 :: v185 :: v186 :: v187 :: v188 :: v189 :: v190 :: v191 :: v192 :: v193 :: v194 :: v195 :: v196 :: v197 :: v198 :: v199 :: v200 :: v201 :: v202 :: v203 :: v204 :: v205 :: v206 :: v207 :: v208 :: v209 :: v210 :: v211 :: v212 :: v213 :: v214 :: v215 :: v216 :: v217 :: v218 :: v219 :: v220 :: v221 :: v222 :: v223 :: v224 :: v225 :: v226 :: v227 :: v228 :: v229 :: v230 :: v231 :: v232 :: v233 :: v234 :: v235 :: v236 :: v237 :: v238 :: v239 :: v240 :: v241 :: v242 :: v243 :: v244 :: v245 :: v246 :: v247 :: v248 :: v249 :: v250 :: v251 :: v252 :: v253 :: v254 :: v255 :: v256 :: v257 :: v258 :: v259 :: v260 :: v261 :: v262 :: v263 :: v264 :: v265 :: []), defers := [] } w') (hk : a.k % 8 = 7) :
    Code.wp Tryd.prog (plC [1, 1, 1, 1, 1, 0, 1, 0, 0, 1, 0, 0, 1, 1, 1, 1, 1, 1, 1, 1, 0]) (Exit.then A fun _ _ _ => False) { tmps := List.toArray (av :: u1 :: .bool false :: .pointer (some ⟨D, 0, none⟩) :: .pointer (some ⟨T, 0, none⟩) :: u5 :: .slice la n lc :: .int .i64 (i : Int) :: .pointer (some ⟨X, 0, none⟩) :: .string s :: .int .i64 at_ :: u11 :: .slice na n nc :: .int .i64 0 :: .int .i64 0 :: u15 :: u16 :: u17 :: u18 :: u19 :: u20 :: u21 :: u22 :: u23 :: u24 :: u25 :: u26 :: u27 :: u28 :: u29 :: u30 :: u31 :: u32 :: u33 :: u34 :: u35 :: u36 :: u37 :: u38 :: u39 :: u40 :: u41 :: u42 :: u43 :: u44 :: u45 :: u46 :: u47 :: u48 :: u49 :: u50 :: u51 :: u52 :: u53 :: u54 :: u55 :: u56 :: u57 :: u58 :: u59 :: u60 :: u61 :: u62 :: u63 :: u64 :: u65 :: u66 :: u67 :: u68 :: u69 :: u70 :: u71 :: u72 :: u73 :: u74 :: u75 :: u76 :: u77 :: u78 :: u79 :: u80 :: u81 :: u82 :: u83 :: u84 :: u85 :: u86 :: u87 :: u88 :: u89 :: u90 :: u91 :: u92 :: u93 :: u94 :: u95 :: u96 :: u97 :: u98 :: u99 :: u100 :: u101 :: u102 :: u103 :: u104 :: u105 :: u106 :: u107 :: u108 :: u109 :: u110 :: u111 :: u112 :: u113 :: u114 :: u115 :: u116 :: u117 :: u118 :: u119 :: u120 :: u121 :: u122 :: u123 :: u124 :: u125 :: u126 :: u127 :: u128 :: u129 :: u130 :: u131 :: u132 :: u133 :: u134 :: u135 :: u136 :: u137 :: u138 :: u139 :: u140 :: u141 :: u142 :: u143 :: u144 :: u145 :: u146 :: u147 :: u148 :: u149 :: u150 :: u151 :: u152 :: u153 :: u154 :: u155 :: u156 :: u157 :: u158 :: u159 :: u160 :: u161 :: u162 :: u163 :: u164 :: u165 :: u166 :: u167 :: u168 :: u169 :: u170 :: u171 :: u172 :: u173 :: u174 :: u175 :: u176 :: u177 :: u178 :: u179 :: u180 :: u181 :: u182 :: u183 :: u184 :: u185 :: u186 :: u187 :: u188 :: u189 :: u190 :: u191 :: u192 :: u193 :: u194 :: u195 :: u196 :: u197 :: u198 :: u199 :: u200 :: u201 :: u202 :: u203 :: u204 :: u205 :: u206 :: u207 :: u208 :: u209 :: u210 :: u211 :: u212 :: u213 :: u214 :: u215 :: u216 :: u217 :: u218 :: u219 :: u220 :: u221 :: u222 :: u223 :: u224 :: u225 :: u226 :: u227 :: u228 :: u229 :: u230 :: u231 :: u232 :: u233 :: u234 :: u235 :: u236 :: u237 :: u238 :: u239 :: u240 :: u241 :: u242 :: u243 :: u244 :: u245 :: u246 :: u247 :: u248 :: u249 :: u250 :: u251 :: u252 :: u253 :: u254 :: u255 :: u256 :: u257 :: u258 :: u259 :: u260 :: u261 :: u262 :: u263 :: u264 :: u265 :: []), defers := [] } w := by
  have HA := Lib.hid hA
  have HNOW := Lib.hid h
  have HV := Lib.hid hv
  have HNV := Lib.hid hnv
  have HNM := Lib.hid hnm
  have HX := Lib.hid hX
  have HXM := Lib.hid hXm
  have HN := Lib.hid hn
  have c0 : w.cell? ⟨X, 0, none⟩ = some (.int .u8 (a.k : Int)) := by have := hX 0 _ (act_k a); simpa using this
  have c1 : w.cell? ⟨X, 1, none⟩ = some (.int .u8 (a.n : Int)) := by have := hX 1 _ (act_n a); simpa using this
  have k1 : ((a.k : Int)).tmod 8 = 7 := by rw [Int.tmod_eq_emod_of_nonneg (by omega)]; omega
  have k2 : (a.k : Int) % 8 = 7 := by omega
  have k3 : IntKind.u8.wrap 7 = 7 := by rw [IntKind.wrap_u8]; omega
  have hn20 : a.n % 20 < 20 := by omega
  have n1 : ((a.n : Int)).tmod 20 = ((a.n % 20 : Nat) : Int) := by rw [Int.tmod_eq_emod_of_nonneg (by omega)]; omega
  have n2 : (a.n : Int) % 20 = ((a.n % 20 : Nat) : Int) := by omega
  obtain ⟨q, hq⟩ : ∃ q, a.n % 20 = q := ⟨_, rfl⟩
  rw [hq] at n1 n2 hn20
  have n3 : IntKind.u8.wrap (q : Int) = (q : Int) := by rw [IntKind.wrap_u8]; omega
  have n4 : IntKind.i64.wrap (q : Int) = (q : Int) := by rw [IntKind.wrap_i64]; omega
  clear hA h hv hnv hnm hX hXm hs hn hq hat
  conv => arg 2; whnf
  go_wp2_with fail
  refine (arm_h w F J D d L C (nn + 400) (q : Int) HNOW.out.lb.jc (by omega)).mono ?_
  rintro e w1 ⟨rfl, F1, hj1, hs1⟩
  obtain ⟨hlb1, hg1, t1⟩ := HNOW.out.lb.jstep hj1 hs1
  have HW1 := Lib.hid (show Turn (fun _ => False) W w1 from HNOW.out.turn.trans hs1.turn (fun k hk e => by have := HNOW.out.lb.bM k (.inl e); have := HNOW.out.base; omega))
  have HLB1 := Lib.hid hlb1
  have HG1 := Lib.hid hg1
  have HT1 := Lib.hid t1
  clear hj1 hs1 hlb1 hg1 t1 c0 c1
  go_wp2_with fail
  refine HA.out _ _ _ _ _ _ _ _ _ _ _ _ _ _ _ _ _ _ _ _ _ _ _ _ _ _ _ _ _ _ _ _ _ _ _ _ _ _ _ _ _ _ _ _ _ _ _ _ _ _ _ _ _ _ _ _ _ _ _ _ _ _ _ _ _ _ _ _ _ _ _ _ _ _ _ _ _ _ _ _ _ _ _ _ _ _ _ _ _ _ _ _ _ _ _ _ _ _ _ _ _ _ _ _ _ _ _ _ _ _ _ _ _ _ _ _ _ _ _ _ _ _ _ _ _ _ _ _ _ _ _ _ _ _ _ _ _ _ _ _ _ _ _ _ _ _ _ _ _ _ _ _ _ _ _ _ _ _ _ _ _ _ _ _ _ _ _ _ _ _ _ _ _ _ _ _ _ _ _ _ _ _ _ _ _ _ _ _ _ _ _ _ _ _ _ _ _ _ _ _ _ _ _ _ _ _ _ _ _ _ _ _ _ _ _ _ _ _ _ _ _ _ _ _ _ _ _ _ _ _ _ _ _ _ _ _ _ _ _ _ _ _ _ _ _ _ _ _ _ _ _ _ _ _ _ _ _ _ _ _ (rangeAt_turn HX.out HT1.out HXM.out.2) (.inl ⟨rfl, by decide, .inl ⟨rfl, F1, J, _, L, C, rs, l, ⟨HLB1.out.less (by omega), HNOW.out.good, HNOW.out.tells, HNOW.out.bes, HW1.out, HNOW.out.base⟩, ?_⟩⟩)
  have hro := own_rows_turn HNV.out HT1.out (fun q hq => (HNM.out q hq).2.1)
  refine ⟨own_rowV (by rw [HN.out]; exact hro) HV.out.row.ok, fun q h1 h2 => ⟨Nat.lt_of_lt_of_le (HNM.out q h1).1 HT1.out.size, fun hm => ?_⟩⟩
  rcases HG1.out q hm with hm | hm
  · exact (HNM.out q h1).2.1 hm
  · have := (HNM.out q h1).1; omega
end Go.Proofs.YtnenkclihgeacaaDoor
/- Own contracts: a table that is opened again. No statement is proved here. -/
namespace Go.Proofs.YtnenkclihgeacaaDoor
set_option maxRecDepth 100000
open Go.RowKit
set_option linter.unusedVariables false
set_option linter.unusedSimpArgs false

set_option maxHeartbeats 16000000 in
theorem sw_again (u1 u5 u11 u15 u16 u17 u18 u19 u20 u21 u22 u23 u24 u25 u26 u27 u28 u29 u30 u31 u32 u33 u34 u35 u36 u37 u38 u39 u40 u41 u42 u43 u44 u45 u46 u47 u48 u49 u50 u51 u52 u53 u54 u55 u56 u57 u58 u59 u60 u61 u62 u63 u64 u65 u66 u67 u68 u69 u70 u71 u72 u73 u74 u75 u76 u77 u78 u79 u80 u81 u82 u83 u84 u85 u86 u87 u88 u89 u90 u91 u92 u93 u94 u95 u96 u97 u98 u99 u100 u101 u102 u103 u104 u105 u106 u107 u108 u109 u110 u111 u112 u113 u114 u115 u116 u117 u118 u119 u120 u121 u122 u123 u124 u125 u126 u127 u128 u129 u130 u131 u132 u133 u134 u135 u136 u137 u138 u139 u140 u141 u142 u143 u144 u145 u146 u147 u148 u149 u150 u151 u152 u153 u154 u155 u156 u157 u158 u159 u160 u161 u162 u163 u164 u165 u166 u167 u168 u169 u170 u171 u172 u173 u174 u175 u176 u177 u178 u179 u180 u181 u182 u183 u184 u185 u186 u187 u188 u189 u190 u191 u192 u193 u194 u195 u196 u197 u198 u199 u200 u201 u202 u203 u204 u205 u206 u207 u208 u209 u210 u211 u212 u213 u214 u215 u216 u217 u218 u219 u220 u221 u222 u223 u224 u225 u226 u227 u228 u229 u230 u231 u232 u233 u234 u235 u236 u237 u238 u239 u240 u241 u242 u243 u244 u245 u246 u247 u248 u249 u250 u251 u252 u253 u254 u255 u256 u257 u258 u259 u260 u261 u262 u263 u264 u265 av : Value) (W w : World) (B : Nat) (F : Nat → Prop) (T J D : Nat) (d : DiskM) (L : Nat) (C : List (List Int)) (nn : Nat) (rs l : List Rf) (la na : Option Addr) (n lc nc i X : Nat) (s : ByteArray) (at_ : Int) (a : ActM)
    (h : Now W w B F T J D d L C (nn + 400) rs l) (hn : l.length = n) (hv : Own w F J T (.slice la n lc) l) (Pb : Nat) (hnv : w.ownsRow Pb 37 34 (.slice na n nc) n (rfsV l)) (hnm : ∀ q, (Value.slice na n nc).ownBlock = some q → q < w.heap.size ∧ ¬ Mn F J T q ∧ W.heap.size ≤ q ∧ q ≠ X ∧ (∀ p, (Value.slice la n lc).ownBlock = some p → p ≠ q)) (hX : w.rangeAt X 0 a.vals) (hXm : X < w.heap.size ∧ ¬ Mn F J T X) (hs : s = a.nm) (haok : a.Ok) (hnsz : s.size ≤ 9223372036854775807) (tab : Tab W)
    (hat : (at_ = -1 ∧ ∀ x ∈ l, x.name ≠ s) ∨ ∃ p : Nat, p < n ∧ at_ = (p : Int) ∧ (l.getD p rf0).name = s) (A : Act → World → Prop)
    (hA : ∀ (v1 v5 v10 v11 v15 v16 v17 v18 v19 v20 v21 v22 v23 v24 v25 v26 v27 v28 v29 v30 v31 v32 v33 v34 v35 v36 v37 v38 v39 v40 v41 v42 v43 v44 v45 v46 v47 v48 v49 v50 v51 v52 v53 v54 v55 v56 v57 v58 v59 v60 v61 v62 v63 v64 v65 v66 v67 v68 v69 v70 v71 v72 v73 v74 v75 v76 v77 v78 v79 v80 v81 v82 v83 v84 v85 v86 v87 v88 v89 v90 v91 v92 v93 v94 v95 v96 v97 v98 v99 v100 v101 v102 v103 v104 v105 v106 v107 v108 v109 v110 v111 v112 v113 v114 v115 v116 v117 v118 v119 v120 v121 v122 v123 v124 v125 v126 v127 v128 v129 v130 v131 v132 v133 v134 v135 v136 v137 v138 v139 v140 v141 v142 v143 v144 v145 v146 v147 v148 v149 v150 v151 v152 v153 v154 v155 v156 v157 v158 v159 v160 v161 v162 v163 v164 v165 v166 v167 v168 v169 v170 v171 v172 v173 v174 v175 v176 v177 v178 v179 v180 v181 v182 v183 v184 v185 v186 v187 v188 v189 v190 v191 v192 v193 v194 v195 v196 v197 v198 v199 v200 v201 v202 v203 v204 v205 v206 v207 v208 v209 v210 v211 v212 v213 v214 v215 v216 v217 v218 v219 v220 v221 v222 v223 v224 v225 v226 v227 v228 v229 v230 v231 v232 v233 v234 v235 v236 v237 v238 v239 v240 v241 v242 v243 v244 v245 v246 v247 v248 v249 v250 v251 v252 v253 v254 v255 v256 v257 v258 v259 v260 v261 v262 v263 v264 v265 : Value) (T1 : Nat) (nv1 : Value) (wt ea : Int) (w' : World), w'.rangeAt X 0 a.vals → Sw W w' B D nn l (.slice la n lc) T1 nv1 wt ea → A { tmps := List.toArray (av :: v1 :: .bool false :: .pointer (some ⟨D, 0, none⟩) :: .pointer (some ⟨T1, 0, none⟩) :: v5 :: .slice la n lc :: .int .i64 (i : Int) :: .pointer (some ⟨X, 0, none⟩) :: .string s :: v10 :: v11 :: nv1 :: .int .i64 wt :: .int .i64 ea :: v15 :: v16 :: v17 :: v18 :: v19 :: v20 :: v21 :: v22 :: v23 :: v24 :: v25 :: v26 :: v27 :: v28 :: v29 :: v30 :: v31 :: v32 :: v33 :: v34 :: v35 :: v36 :: v37 :: v38 :: v39 :: v40 :: v41 :: v42 :: v43 :: v44 :: v45 :: v46 :: v47 :: v48 :: v49 :: v50 :: v51 :: v52 :: v53 :: v54 :: v55 :: v56 :: v57 :: v58 :: v59 :: v60 :: v61 :: v62 :: v63 :: v64 :: v65 :: v66 :: v67 :: v68 :: v69 :: v70 :: v71 :: v72 :: v73 :: v74 :: v75 :: v76 :: v77 :: v78 :: v79 :: v80 :: v81 :: v82 :: v83 :: v84 :: v85 :: v86 :: v87 :: v88 :: v89 :: v90 :: v91 :: v92 :: v93 :: v94 :: v95 :: v96 :: v97 :: v98 :: v99 :: v100 :: v101 :: v102 :: v103 :: v104 :: v105 :: v106 :: v107 :: v108 :: v109 :: v110 :: v111 :: v112 :: v113 :: v114 :: v115 :: v116 :: v117 :: v118 :: v119 :: v120 :: v121 :: v122 :: v123 :: v124 :: v125 :: v126 :: v127 :: v128 :: v129 :: v130 :: v131 :: v132 :: v133 :: v134 :: v135 :: v136 :: v137 :: v138 :: v139 :: v140 :: v141 :: v142 :: v143 :: v144 :: v145 :: v146 :: v147 :: v148 :: v149 :: v150 :: v151 :: v152 :: v153 :: v154 :: v155 :: v156 :: v157 :: v158 :: v159 :: v160 :: v161 :: v162 :: v163 :: v164 :: v165 :: v166 :: v167 :: v168 :: v169 :: v170 :: v171 :: v172 :: v173 :: v174 :: v175 :: v176 :: v177 :: v178 :: v179 :: v180 :: v181 :: v182 :: v183 :: v184 :: v185 :: v186 :: v187 :: v188 :: v189 :: v190 :: v191 :: v192 :: v193 :: v194 :: v195 :: v196 :: v197 :: v198 :: v199 :: v200 :: v201 :: v202 :: v203 :: v204 :: v205 :: v206 :: v207 :: v208 :: v209 :: v210 :: v211 :: v212 :: v213 :: v214 :: v215 :: v216 :: v217 :: v218 :: v219 :: v220 :: v221 :: v222 :: v223 :: v224 :: v225 :: v226 :: v227 :: v228 :: v229 :: v230 :: v231 :: v232 :: v233 :: v234 :: v235 :: v236 :: v237 :: v238 :: v239 :: v240 :: v241 :: v242 :: v243 :: v244 :: v245 :: v246 :: v247 :: v248 :: v249 :: v250 :: v251 :: v252 :: v253 :: v254 :: v255 :: v256 :: v257 :: v258 :: v259 :: v260 :: v261 :: v262 :: v263 :: v264 :: v265 :: []), defers := [] } w') (hk : a.k % 8 = 6) :
    Code.wp Tryd.prog (plC [1, 1, 1, 1, 1, 0, 1, 0, 0, 1, 0, 0, 1, 1, 1, 1, 1, 1, 1, 1, 0]) (Exit.then A fun _ _ _ => False) { tmps := List.toArray (av :: u1 :: .bool false :: .pointer (some ⟨D, 0, none⟩) :: .pointer (some ⟨T, 0, none⟩) :: u5 :: .slice la n lc :: .int .i64 (i : Int) :: .pointer (some ⟨X, 0, none⟩) :: .string s :: .int .i64 at_ :: u11 :: .slice na n nc :: .int .i64 0 :: .int .i64 0 :: u15 :: u16 :: u17 :: u18 :: u19 :: u20 :: u21 :: u22 :: u23 :: u24 :: u25 :: u26 :: u27 :: u28 :: u29 :: u30 :: u31 :: u32 :: u33 :: u34 :: u35 :: u36 :: u37 :: u38 :: u39 :: u40 :: u41 :: u42 :: u43 :: u44 :: u45 :: u46 :: u47 :: u48 :: u49 :: u50 :: u51 :: u52 :: u53 :: u54 :: u55 :: u56 :: u57 :: u58 :: u59 :: u60 :: u61 :: u62 :: u63 :: u64 :: u65 :: u66 :: u67 :: u68 :: u69 :: u70 :: u71 :: u72 :: u73 :: u74 :: u75 :: u76 :: u77 :: u78 :: u79 :: u80 :: u81 :: u82 :: u83 :: u84 :: u85 :: u86 :: u87 :: u88 :: u89 :: u90 :: u91 :: u92 :: u93 :: u94 :: u95 :: u96 :: u97 :: u98 :: u99 :: u100 :: u101 :: u102 :: u103 :: u104 :: u105 :: u106 :: u107 :: u108 :: u109 :: u110 :: u111 :: u112 :: u113 :: u114 :: u115 :: u116 :: u117 :: u118 :: u119 :: u120 :: u121 :: u122 :: u123 :: u124 :: u125 :: u126 :: u127 :: u128 :: u129 :: u130 :: u131 :: u132 :: u133 :: u134 :: u135 :: u136 :: u137 :: u138 :: u139 :: u140 :: u141 :: u142 :: u143 :: u144 :: u145 :: u146 :: u147 :: u148 :: u149 :: u150 :: u151 :: u152 :: u153 :: u154 :: u155 :: u156 :: u157 :: u158 :: u159 :: u160 :: u161 :: u162 :: u163 :: u164 :: u165 :: u166 :: u167 :: u168 :: u169 :: u170 :: u171 :: u172 :: u173 :: u174 :: u175 :: u176 :: u177 :: u178 :: u179 :: u180 :: u181 :: u182 :: u183 :: u184 :: u185 :: u186 :: u187 :: u188 :: u189 :: u190 :: u191 :: u192 :: u193 :: u194 :: u195 :: u196 :: u197 :: u198 :: u199 :: u200 :: u201 :: u202 :: u203 :: u204 :: u205 :: u206 :: u207 :: u208 :: u209 :: u210 :: u211 :: u212 :: u213 :: u214 :: u215 :: u216 :: u217 :: u218 :: u219 :: u220 :: u221 :: u222 :: u223 :: u224 :: u225 :: u226 :: u227 :: u228 :: u229 :: u230 :: u231 :: u232 :: u233 :: u234 :: u235 :: u236 :: u237 :: u238 :: u239 :: u240 :: u241 :: u242 :: u243 :: u244 :: u245 :: u246 :: u247 :: u248 :: u249 :: u250 :: u251 :: u252 :: u253 :: u254 :: u255 :: u256 :: u257 :: u258 :: u259 :: u260 :: u261 :: u262 :: u263 :: u264 :: u265 :: []), defers := [] } w := by
  have HA := Lib.hid hA
  have HNOW := Lib.hid h
  have HV := Lib.hid hv
  have HNV := Lib.hid hnv
  have HNM := Lib.hid hnm
  have HX := Lib.hid hX
  have HXM := Lib.hid hXm
  have HN := Lib.hid hn
  have HTAB := Lib.hid tab
  have c0 : w.cell? ⟨X, 0, none⟩ = some (.int .u8 (a.k : Int)) := by have := hX 0 _ (act_k a); simpa using this
  have k1 : ((a.k : Int)).tmod 8 = 6 := by rw [Int.tmod_eq_emod_of_nonneg (by omega)]; omega
  have k2 : (a.k : Int) % 8 = 6 := by omega
  have k3 : IntKind.u8.wrap 6 = 6 := by rw [IntKind.wrap_u8]; omega
  clear hA h hv hnv hnm hX hXm hs hn hat tab
  conv => arg 2; whnf
  go_wp2_with fail
  refine (arm_h w F J D d L C (nn + 400) (-1) HNOW.out.lb.jc (by omega)).mono ?_
  rintro e w1 ⟨rfl, F1, hj1, hs1⟩
  obtain ⟨hlb1, hg1, t1⟩ := HNOW.out.lb.jstep hj1 hs1
  have HW1 := Lib.hid (show Turn (fun _ => False) W w1 from HNOW.out.turn.trans hs1.turn (fun k hk e => by have := HNOW.out.lb.bM k (.inl e); have := HNOW.out.base; omega))
  have HLB1 := Lib.hid hlb1
  have HG1 := Lib.hid hg1
  have HT1 := Lib.hid t1
  have HJ1 := Lib.hid hj1
  clear hj1 hs1 hlb1 hg1 t1 c0
  have hlim := HLB1.out.jc.lim
  have hb2 := HLB1.out.b2
  have hlenC := HLB1.out.len
  have hBw : B ≤ w1.heap.size := Nat.le_trans (HLB1.out.bM T (.inr (.inr rfl))) (Nat.le_of_lt HLB1.out.tb.lt)
  go_wp2_with fail
  refine (open_h w1 F1 D _ L C (nn + 300) HJ1.out.dc rfl (by omega)).mono ?_
  rintro e w2 ⟨J2, F2, d2, L2, rfl, hj2, ha2, hJ2, hst2, hL2⟩
  have HJ2 := Lib.hid hj2
  have HF2 := Lib.hid (show ∀ k, F2 k → B ≤ k from fun k hk => by
    rcases hst2.grown k hk with h | h
    · exact HLB1.out.bM k (.inl h)
    · omega)
  have HW2 := Lib.hid (show Turn (fun _ => False) W w2 from HW1.out.trans hst2.turn (fun k hk e => by have := HLB1.out.bM k (.inl e); have := HNOW.out.base; omega))
  have HGR := Lib.hid (show ∀ k, F2 k → F1 k ∨ w1.heap.size ≤ k from hst2.grown)
  have HT12 := Lib.hid (show Turn (Mn F1 J T) w1 w2 from hst2.turn.mono (fun _ _ h => .inl h))
  clear hj2 hst2
  go_wp2_with fail
  refine (lopen_any w2 B F2 J2 D d2 L2 C (nn + 300) HJ2.out (by omega) (HTAB.out.turn HW2.out) hb2 HF2.out (by omega)).mono ?_
  rintro e w3 ⟨t3, ⟨T3, rs3, hop, rfl, hT3, hlb3⟩ | ⟨hbad, _⟩⟩
  · obtain rfl : rs3 = rs := (opTo_all HNOW.out.good HNOW.out.lb.tb.ok HNOW.out.tells).1 rs3 hop
    have HLB3 := Lib.hid hlb3
    have hs12 := HT12.out.size
    have hgr3 : ∀ k, Mn F2 J2 T3 k → Mn F1 J T k ∨ w1.heap.size ≤ k := fun k hk => by
      rcases hk with hk | rfl | rfl
      · rcases HGR.out k hk with h | h
        · exact .inl (.inl h)
        · exact .inr h
      · exact .inr hJ2
      · exact .inr (by omega)
    have t13 : Turn (Mn F1 J T) w1 w3 := HT12.out.trans (t3.mono (fun _ _ h => h.elim)) (fun _ _ h => h)
    have HGR3 := Lib.hid hgr3
    have HT13 := Lib.hid t13
    have HW3 := Lib.hid (HW2.out.trans t3 (fun _ _ => id))
    clear hlb3 hop hgr3 t13 t3
    have hs1 := HT1.out.size
    have hout : ∀ q, q < w.heap.size → ¬ Mn F J T q → ¬ Mn F1 J T q := fun q hq hn hm => by
      rcases HG1.out q hm with h | h
      · exact hn h
      · omega
    have HOUT := Lib.hid hout
    clear hout
    go_wp2_with fail
    refine HA.out _ _ _ _ _ _ _ _ _ _ _ _ _ _ _ _ _ _ _ _ _ _ _ _ _ _ _ _ _ _ _ _ _ _ _ _ _ _ _ _ _ _ _ _ _ _ _ _ _ _ _ _ _ _ _ _ _ _ _ _ _ _ _ _ _ _ _ _ _ _ _ _ _ _ _ _ _ _ _ _ _ _ _ _ _ _ _ _ _ _ _ _ _ _ _ _ _ _ _ _ _ _ _ _ _ _ _ _ _ _ _ _ _ _ _ _ _ _ _ _ _ _ _ _ _ _ _ _ _ _ _ _ _ _ _ _ _ _ _ _ _ _ _ _ _ _ _ _ _ _ _ _ _ _ _ _ _ _ _ _ _ _ _ _ _ _ _ _ _ _ _ _ _ _ _ _ _ _ _ _ _ _ _ _ _ _ _ _ _ _ _ _ _ _ _ _ _ _ _ _ _ _ _ _ _ _ _ _ _ _ _ _ _ _ _ _ _ _ _ _ _ _ _ _ _ _ _ _ _ _ _ _ _ _ _ _ _ _ _ _ _ _ _ _ _ _ _ _ _ _ _ _ _ _ _ _ _ _ _ _ (rangeAt_turn (rangeAt_turn HX.out HT1.out HXM.out.2) HT13.out (HOUT.out X HXM.out.1 HXM.out.2)) (.inl ⟨rfl, by decide, .inl ⟨rfl, F2, J2, d2, L2, C, rs3, l, ⟨HLB3.out.less (by omega), HNOW.out.good, HNOW.out.tells, HNOW.out.bes, HW3.out, HNOW.out.base⟩, ?_⟩⟩)
    have hro := own_rows_turn (own_rows_turn HNV.out HT1.out (fun q hq => (HNM.out q hq).2.1)) HT13.out (fun q hq => HOUT.out q (HNM.out q hq).1 (HNM.out q hq).2.1)
    refine ⟨own_rowV (by rw [HN.out]; exact hro) HV.out.row.ok, fun q h1 h2 => ⟨by have := (HNM.out q h1).1; have := HT13.out.size; omega, fun hm => ?_⟩⟩
    rcases HGR3.out q hm with hm | hm
    · exact HOUT.out q (HNM.out q h1).1 (HNM.out q h1).2.1 hm
    · have := (HNM.out q h1).1; omega
  · exact absurd hbad (opTo_all HNOW.out.good HNOW.out.lb.tb.ok HNOW.out.tells).2
end Go.Proofs.YtnenkclihgeacaaDoor
/- Own contracts: behind an act that was laid down. No statement is proved here. -/
namespace Go.Proofs.YtnenkclihgeacaaDoor
set_option maxRecDepth 100000
open Go.RowKit
set_option linter.unusedVariables false
set_option linter.unusedSimpArgs false

theorem Off.turn {w w' : World} {B : Nat} {F : Nat → Prop} {T J D : Nat} {d : DiskM} {L : Nat} {C C' : List (List Int)} {n : Nat} {rs : List Rf} {G : Nat → Prop} (h : Off w B F T J D d L C C' n rs) (t : Turn G w w') (hG : ∀ k, Mn F J T k → ¬ G k) (h1 : ¬ G 1) : Off w' B F T J D d L C C' n rs :=
  { h with tb := h.tb.turn t (hG T (.inr (.inr rfl))), jh := ⟨h.jh.dh.turn t (fun k hk => hG k (.inl hk)), h.jh.jat.turn t (hG J (.inr (.inl rfl))), h.jh.nJ, h.jh.big⟩, tab := tab_turn h.tab t h1 }
/-- Behind an act that was laid down, or stopped. -/
structure Aft (W w : World) (B : Nat) (F : Nat → Prop) (T J D nn : Nat) (rs rs1 : List Rf) (r : Int) : Prop where
  at_ : ∃ d L C C1, ((r = 0 ∧ LB w B F T J D d L C1 (nn + 100) rs1) ∨ (r = 9 ∧ Off w B F T J D d L C C1 (nn + 100) rs)) ∧ Tells C rs ∧ Tells C1 rs1
  good : GoodR rs 12
  good1 : GoodR rs1 12
  ok : ∀ x ∈ rs, x.Ok
  ok1 : ∀ x ∈ rs1, x.Ok
  turn : Turn (fun _ => False) W w
  base : W.heap.size ≤ B
section
variable {W w w' : World} {B : Nat} {F : Nat → Prop} {T J D nn : Nat} {rs rs1 : List Rf} {r : Int}
theorem Aft.turn' {G : Nat → Prop} (h : Aft W w B F T J D nn rs rs1 r) (t : Turn G w w') (hG : ∀ k, Mn F J T k → ¬ G k) (h1 : ¬ G 1) (hW : ∀ k, k < W.heap.size → ¬ G k) : Aft W w' B F T J D nn rs rs1 r := by
  obtain ⟨d, L, C, C1, hh, ht⟩ := h.at_
  refine { h with at_ := ⟨d, L, C, C1, ?_, ht⟩, turn := h.turn.trans t hW }
  rcases hh with ⟨h1', h2⟩ | ⟨h1', h2⟩
  · exact .inl ⟨h1', h2.turn t hG h1⟩
  · exact .inr ⟨h1', h2.turn t hG h1⟩
theorem Aft.turn0 (h : Aft W w B F T J D nn rs rs1 r) (t : Turn (fun _ => False) w w') : Aft W w' B F T J D nn rs rs1 r := h.turn' t (fun _ _ => id) id (fun _ _ => id)
theorem Aft.lt (h : Aft W w B F T J D nn rs rs1 r) (k : Nat) (hk : Mn F J T k) : k < w.heap.size := by
  obtain ⟨d, L, C, C1, hh, ht⟩ := h.at_
  rcases hh with ⟨_, h2⟩ | ⟨_, h2⟩
  · exact h2.lt k hk
  · rcases hk with hk | rfl | rfl
    · exact h2.jh.dh.2 k hk
    · exact h2.jh.jat.lt
    · exact h2.tb.lt
theorem Aft.bM (h : Aft W w B F T J D nn rs rs1 r) (k : Nat) (hk : Mn F J T k) : B ≤ k ∧ 2 ≤ k := by
  obtain ⟨d, L, C, C1, hh, ht⟩ := h.at_
  rcases hh with ⟨_, h2⟩ | ⟨_, h2⟩
  · exact ⟨h2.bM k hk, Nat.le_trans h2.b2 (h2.bM k hk)⟩
  · exact ⟨h2.bM k hk, Nat.le_trans h2.b2 (h2.bM k hk)⟩
theorem Aft.sw {l nx : List Rf} {lv nv : Value} (h : Aft W w B F T J D nn rs rs1 r) (hb : Beside rs l) (hb1 : Beside rs1 nx) (o : Own w F J T lv l) (o1 : Own w F J T nv nx) : Sw W w B D nn l lv T nv 0 r := by
  obtain ⟨d, L, C, C1, hh, ht, ht1⟩ := h.at_
  rcases hh with ⟨rfl, h2⟩ | ⟨rfl, h2⟩
  · exact .inl ⟨rfl, by decide, .inl ⟨rfl, F, J, d, L, C1, rs1, nx, ⟨h2.less (by omega), h.good1, ht1, hb1, h.turn, h.base⟩, o1⟩⟩
  · exact .inr ⟨rfl, rfl, F, J, d, L, C, C1, rs, rs1, nx, h2, h.good, h.good1, h.ok, h.ok1, ht, ht1, hb, hb1, o, o1, h.turn, h.base⟩
end
theorem aft_of {W w w' : World} {B : Nat} {F : Nat → Prop} {T J D : Nat} {d : DiskM} {L : Nat} {C : List (List Int)} {nn : Nat} {rs l : List Rf} {i : Nat} {o : Rf} {xs : List Int} {e : Ending} (now : Now W w B F T J D d L C (nn + 400) rs l) (hi : i < 12) (ho : o.Ok) (hg1 : GoodR (rs.set i o) 12) (hx : pad64 xs = secR o) (ly : LyPost w B F T J D d L C (nn + 100) rs i o xs e w') :
    ∃ r F1, e = .returned (.int .i64 r) ∧ Aft W w' B F1 T J D nn rs (rs.set i o) r ∧ Turn (Mn F J T) w w' ∧ (∀ k, Mn F1 J T k → Mn F J T k ∨ w.heap.size ≤ k) := by
  obtain ⟨r, F1, d1, L1, he, hs, _, hh⟩ := ly
  have ht1 := tells_set now.good.len now.lb.len.1 now.tells i hi o xs hx
  refine ⟨r, F1, he, ⟨⟨d1, L1, C, _, ?_, now.tells, ht1⟩, now.good, hg1, now.lb.tb.ok, ?_, now.turn.trans hs.turn (fun k hk e => ?_), now.base⟩, hs.turn, hs.grown⟩
  · rcases hh with ⟨h1, h2, _⟩ | ⟨h1, h2, _⟩
    · exact .inl ⟨h1, h2⟩
    · exact .inr ⟨h1, h2⟩
  · intro x hx
    rcases List.mem_or_eq_of_mem_set hx with h | h
    · exact now.lb.tb.ok x h
    · exact h ▸ ho
  · have := now.lb.bM k e
    have := now.base
    omega
theorem RowV.new {w w' : World} {v : Value} {l : List Rf} {G : Nat → Prop} (h : RowV w v l) (t : Turn G w w') (hn : ∀ q, q < w.heap.size → ¬ G q) : RowV w' v l := by
  refine ⟨h.ok, ?_⟩
  rcases h.at_ with ⟨c, h1, h2⟩ | ⟨g, o, c, h1, h2, h3, h4⟩
  · exact .inl ⟨c, h1, h2⟩
  · exact .inr ⟨g, o, c, h1, h2, fun h0 => Nat.lt_of_lt_of_le (h3 h0) t.size, fun k hk => rangeAt_turn (h4 k hk) t (hn g (h3 (by omega)))⟩
theorem RowV.cap {w : World} {la : Option Addr} {n lc : Nat} {l : List Rf} (h : RowV w (.slice la n lc) l) (hn : l.length = n) : n ≤ lc := by
  rcases h.at_ with ⟨c, h1, h2⟩ | ⟨g, o, c, h1, h2, _⟩
  · injection h1 with q1 q2 q3
    omega
  · injection h1 with q1 q2 q3
    omega
theorem RowV.take {w : World} {la : Option Addr} {n lc : Nat} {l : List Rf} (h : RowV w (.slice la n lc) l) (p : Nat) (hp : p ≤ l.length) : RowV w (.slice la p lc) (l.take p) := by
  refine ⟨fun x hx => h.ok x (List.mem_of_mem_take hx), ?_⟩
  rcases h.at_ with ⟨c, h1, h2⟩ | ⟨g, o, c, h1, h2, h3, h4⟩
  · injection h1 with q1 q2 q3
    subst h2
    obtain rfl : p = 0 := by simpa using hp
    exact .inl ⟨lc, by rw [q1], rfl⟩
  · injection h1 with q1 q2 q3
    have hl : (l.take p).length = p := by simp; omega
    refine .inr ⟨g, o, lc, by rw [q1, hl], by omega, fun h0 => h3 (by omega), fun k hk => ?_⟩
    have hkp : k < p := by omega
    rw [show (l.take p).getD k rf0 = l.getD k rf0 by simp [List.getD, List.getElem?_take, hkp]]
    exact h4 k (by omega)
theorem RowV.drop {w : World} {la : Option Addr} {n lc : Nat} {l : List Rf} (h : RowV w (.slice la n lc) l) (hn : l.length = n) (p : Nat) (hp : p ≤ n) : RowV w (.slice (if lc = p then la else la.map (·.add (p * 34))) (n - p) (lc - p)) (l.drop p) := by
  refine ⟨fun x hx => h.ok x (List.mem_of_mem_drop hx), ?_⟩
  have hcap := h.cap hn
  rcases h.at_ with ⟨c, h1, h2⟩ | ⟨g, o, c, h1, h2, h3, h4⟩
  · injection h1 with q1 q2 q3
    subst q1
    exact .inl ⟨lc - p, by rw [show n - p = 0 by omega]; simp, by rw [h2]; simp⟩
  · injection h1 with q1 q2 q3
    subst q1
    have hl : (l.drop p).length = n - p := by simp [hn]
    by_cases hlp : lc = p
    · refine .inr ⟨g, o, lc - p, by rw [if_pos hlp, hl], by omega, fun h0 => by omega, fun k hk => by omega⟩
    · refine .inr ⟨g, o + p * 34, lc - p, by rw [if_neg hlp, hl, Option.map_some, Addr.add_mid], by omega, fun h0 => h3 (by omega), fun k hk => ?_⟩
      rw [show (l.drop p).getD k rf0 = l.getD (p + k) rf0 by simp [List.getD], show o + p * 34 + k * 34 = o + (p + k) * 34 by omega]
      exact h4 (p + k) (by omega)
theorem app_nil (w : World) (v1 : Value) (l1 : List Rf) (h1 : RowV w v1 l1) (hl : l1.length ≤ 1000) :
    ∃ va w', (Builtin.append_ #[29, 29] 29 #[.slice none 0 0, v1]).run Tryd.prog w = .ok va w' ∧ w'.ownsRow w.heap.size 37 34 va l1.length (rfsV l1) ∧ Turn (fun _ => False) w w' := by
  obtain ⟨va, w', h2, h3, h4⟩ := app_refs w w.heap.size (.slice none 0 0) v1 [] l1 ⟨rfl, .inl ⟨rfl, rfl⟩⟩ h1 (Nat.le_refl _) (by simpa using hl)
  exact ⟨va, w', h2, h3, h4.mono (fun k _ h => by cases h)⟩
theorem own_new {w : World} {base n : Nat} {v : Value} {xs : List Value} (h : w.ownsRow base 37 34 v n xs) (q : Nat) (hq : v.ownBlock = some q) : base ≤ q ∧ q < w.heap.size := by
  rcases h.2 with ⟨rfl, _⟩ | ⟨g, cap, cur, rfl, h2, h3, _⟩
  · cases hq
  · cases hq
    exact ⟨h2, (Array.getElem?_eq_some_iff.1 h3).1⟩
theorem turn_on {w0 w w' : World} {base n : Nat} {v : Value} {xs : List Value} (h : w.ownsRow base 37 34 v n xs) (hb : w0.heap.size ≤ base) (t : Turn (fun _ => False) w0 w) (t2 : Turn (fun q => v.ownBlock = some q) w w') : Turn (fun _ => False) w0 w' :=
  t.trans t2 (fun q hq e => by have := (own_new h q e).1; omega)
theorem run_size37 (w : World) : (sizeOf 37).run Tryd.prog w = .ok 34 w := by
  have h := info37
  rw [Option.map_eq_some_iff] at h
  obtain ⟨i, h1, h2⟩ := h
  simp [sizeOf, typeInfo, h1, h2]
theorem exec_slice_hi (ev : Operand → Value) (op : Oper) {x y : Operand} (ho : op.op = .slice 29 x none (some y) none) (la : Option Addr) (n lc p : Nat) (hx : ev x = .slice la n lc) (hy : ev y = .int .i64 (p : Int)) (hp : p ≤ lc) (w : World) : (execOp ev op).run Tryd.prog w = .ok (.value (.slice la p lc)) w := by
  have h1 := run_slice_h (P := Tryd.prog) (w := w) 29 la n lc Tryd.underlying29 .i64 (p : Int) (by omega) (by omega)
  have hsz := run_size37 w
  unfold execOp
  simp only [ho, hx, hy, Option.map_some, Option.map_none]
  simp only [Sem.run_bind]
  rw [run_sliceAt_slice (w := w) 29 _ _ _ _ Tryd.underlying29, h1]
  rw [show Tryd.prog.elem 29 = 37 from rfl, hsz]
  cases la <;> simp [sliced, Addr.add]
theorem exec_slice_lo (ev : Operand → Value) (op : Oper) {x y : Operand} (ho : op.op = .slice 29 x (some y) none none) (la : Option Addr) (n lc p : Nat) (hx : ev x = .slice la n lc) (hy : ev y = .int .i64 (p : Int)) (hp : p ≤ n) (w : World) : (execOp ev op).run Tryd.prog w = .ok (.value (.slice (if lc = p then la else la.map (·.add (p * 34))) (n - p) (lc - p))) w := by
  have h1 := run_slice_l (P := Tryd.prog) (w := w) 29 la n lc Tryd.underlying29 .i64 (p : Int) (by omega) (by omega)
  have hsz := run_size37 w
  unfold execOp
  simp only [ho, hx, hy, Option.map_some, Option.map_none]
  simp only [Sem.run_bind]
  rw [run_sliceAt_slice (w := w) 29 _ _ _ _ Tryd.underlying29, h1]
  rw [show Tryd.prog.elem 29 = 37 from rfl, hsz]
  simp [sliced]
end Go.Proofs.YtnenkclihgeacaaDoor
/- Own contracts: an act that drops a ref. No statement is proved here. -/
namespace Go.Proofs.YtnenkclihgeacaaDoor
set_option maxRecDepth 100000
open Go.RowKit
set_option linter.unusedVariables false
set_option linter.unusedSimpArgs false

set_option maxHeartbeats 16000000 in
theorem sw_drop (u1 u5 u11 u15 u16 u17 u18 u19 u20 u21 u22 u23 u24 u25 u26 u27 u28 u29 u30 u31 u32 u33 u34 u35 u36 u37 u38 u39 u40 u41 u42 u43 u44 u45 u46 u47 u48 u49 u50 u51 u52 u53 u54 u55 u56 u57 u58 u59 u60 u61 u62 u63 u64 u65 u66 u67 u68 u69 u70 u71 u72 u73 u74 u75 u76 u77 u78 u79 u80 u81 u82 u83 u84 u85 u86 u87 u88 u89 u90 u91 u92 u93 u94 u95 u96 u97 u98 u99 u100 u101 u102 u103 u104 u105 u106 u107 u108 u109 u110 u111 u112 u113 u114 u115 u116 u117 u118 u119 u120 u121 u122 u123 u124 u125 u126 u127 u128 u129 u130 u131 u132 u133 u134 u135 u136 u137 u138 u139 u140 u141 u142 u143 u144 u145 u146 u147 u148 u149 u150 u151 u152 u153 u154 u155 u156 u157 u158 u159 u160 u161 u162 u163 u164 u165 u166 u167 u168 u169 u170 u171 u172 u173 u174 u175 u176 u177 u178 u179 u180 u181 u182 u183 u184 u185 u186 u187 u188 u189 u190 u191 u192 u193 u194 u195 u196 u197 u198 u199 u200 u201 u202 u203 u204 u205 u206 u207 u208 u209 u210 u211 u212 u213 u214 u215 u216 u217 u218 u219 u220 u221 u222 u223 u224 u225 u226 u227 u228 u229 u230 u231 u232 u233 u234 u235 u236 u237 u238 u239 u240 u241 u242 u243 u244 u245 u246 u247 u248 u249 u250 u251 u252 u253 u254 u255 u256 u257 u258 u259 u260 u261 u262 u263 u264 u265 av : Value) (W w : World) (B : Nat) (F : Nat → Prop) (T J D : Nat) (d : DiskM) (L : Nat) (C : List (List Int)) (nn : Nat) (rs l : List Rf) (la na : Option Addr) (n lc nc i X : Nat) (s : ByteArray) (at_ : Int) (a : ActM)
    (h : Now W w B F T J D d L C (nn + 400) rs l) (hn : l.length = n) (hv : Own w F J T (.slice la n lc) l) (Pb : Nat) (hnv : w.ownsRow Pb 37 34 (.slice na n nc) n (rfsV l)) (hnm : ∀ q, (Value.slice na n nc).ownBlock = some q → q < w.heap.size ∧ ¬ Mn F J T q ∧ W.heap.size ≤ q ∧ q ≠ X ∧ (∀ p, (Value.slice la n lc).ownBlock = some p → p ≠ q)) (hX : w.rangeAt X 0 a.vals) (hXm : X < w.heap.size ∧ ¬ Mn F J T X) (hs : s = a.nm) (haok : a.Ok) (hnsz : s.size ≤ 9223372036854775807) (tab : Tab W)
    (hat : (at_ = -1 ∧ ∀ x ∈ l, x.name ≠ s) ∨ ∃ p : Nat, p < n ∧ at_ = (p : Int) ∧ (l.getD p rf0).name = s) (A : Act → World → Prop)
    (hA : ∀ (v1 v5 v10 v11 v15 v16 v17 v18 v19 v20 v21 v22 v23 v24 v25 v26 v27 v28 v29 v30 v31 v32 v33 v34 v35 v36 v37 v38 v39 v40 v41 v42 v43 v44 v45 v46 v47 v48 v49 v50 v51 v52 v53 v54 v55 v56 v57 v58 v59 v60 v61 v62 v63 v64 v65 v66 v67 v68 v69 v70 v71 v72 v73 v74 v75 v76 v77 v78 v79 v80 v81 v82 v83 v84 v85 v86 v87 v88 v89 v90 v91 v92 v93 v94 v95 v96 v97 v98 v99 v100 v101 v102 v103 v104 v105 v106 v107 v108 v109 v110 v111 v112 v113 v114 v115 v116 v117 v118 v119 v120 v121 v122 v123 v124 v125 v126 v127 v128 v129 v130 v131 v132 v133 v134 v135 v136 v137 v138 v139 v140 v141 v142 v143 v144 v145 v146 v147 v148 v149 v150 v151 v152 v153 v154 v155 v156 v157 v158 v159 v160 v161 v162 v163 v164 v165 v166 v167 v168 v169 v170 v171 v172 v173 v174 v175 v176 v177 v178 v179 v180 v181 v182 v183 v184 v185 v186 v187 v188 v189 v190 v191 v192 v193 v194 v195 v196 v197 v198 v199 v200 v201 v202 v203 v204 v205 v206 v207 v208 v209 v210 v211 v212 v213 v214 v215 v216 v217 v218 v219 v220 v221 v222 v223 v224 v225 v226 v227 v228 v229 v230 v231 v232 v233 v234 v235 v236 v237 v238 v239 v240 v241 v242 v243 v244 v245 v246 v247 v248 v249 v250 v251 v252 v253 v254 v255 v256 v257 v258 v259 v260 v261 v262 v263 v264 v265 : Value) (T1 : Nat) (nv1 : Value) (wt ea : Int) (w' : World), w'.rangeAt X 0 a.vals → Sw W w' B D nn l (.slice la n lc) T1 nv1 wt ea → A { tmps := List.toArray (av :: v1 :: .bool false :: .pointer (some ⟨D, 0, none⟩) :: .pointer (some ⟨T1, 0, none⟩) :: v5 :: .slice la n lc :: .int .i64 (i : Int) :: .pointer (some ⟨X, 0, none⟩) :: .string s :: v10 :: v11 :: nv1 :: .int .i64 wt :: .int .i64 ea :: v15 :: v16 :: v17 :: v18 :: v19 :: v20 :: v21 :: v22 :: v23 :: v24 :: v25 :: v26 :: v27 :: v28 :: v29 :: v30 :: v31 :: v32 :: v33 :: v34 :: v35 :: v36 :: v37 :: v38 :: v39 :: v40 :: v41 :: v42 :: v43 :: v44 :: v45 :: v46 :: v47 :: v48 :: v49 :: v50 :: v51 :: v52 :: v53 :: v54 :: v55 :: v56 :: v57 :: v58 :: v59 :: v60 :: v61 :: v62 :: v63 :: v64 :: v65 :: v66 :: v67 :: v68 :: v69 :: v70 :: v71 :: v72 :: v73 :: v74 :: v75 :: v76 :: v77 :: v78 :: v79 :: v80 :: v81 :: v82 :: v83 :: v84 :: v85 :: v86 :: v87 :: v88 :: v89 :: v90 :: v91 :: v92 :: v93 :: v94 :: v95 :: v96 :: v97 :: v98 :: v99 :: v100 :: v101 :: v102 :: v103 :: v104 :: v105 :: v106 :: v107 :: v108 :: v109 :: v110 :: v111 :: v112 :: v113 :: v114 :: v115 :: v116 :: v117 :: v118 :: v119 :: v120 :: v121 :: v122 :: v123 :: v124 :: v125 :: v126 :: v127 :: v128 :: v129 :: v130 :: v131 :: v132 :: v133 :: v134 :: v135 :: v136 :: v137 :: v138 :: v139 :: v140 :: v141 :: v142 :: v143 :: v144 :: v145 :: v146 :: v147 :: v148 :: v149 :: v150 :: v151 :: v152 :: v153 :: v154 :: v155 :: v156 :: v157 :: v158 :: v159 :: v160 :: v161 :: v162 :: v163 :: v164 :: v165 :: v166 :: v167 :: v168 :: v169 :: v170 :: v171 :: v172 :: v173 :: v174 :: v175 :: v176 :: v177 :: v178 :: v179 :: v180 :: v181 :: v182 :: v183 :: v184 :: v185 :: v186 :: v187 :: v188 :: v189 :: v190 :: v191 :: v192 :: v193 :: v194 :: v195 :: v196 :: v197 :: v198 :: v199 :: v200 :: v201 :: v202 :: v203 :: v204 :: v205 :: v206 :: v207 :: v208 :: v209 :: v210 :: v211 :: v212 :: v213 :: v214 :: v215 :: v216 :: v217 :: v218 :: v219 :: v220 :: v221 :: v222 :: v223 :: v224 :: v225 :: v226 :: v227 :: v228 :: v229 :: v230 :: v231 :: v232 :: v233 :: v234 :: v235 :: v236 :: v237 :: v238 :: v239 :: v240 :: v241 :: v242 :: v243 :: v244 :: v245 :: v246 :: v247 :: v248 :: v249 :: v250 :: v251 :: v252 :: v253 :: v254 :: v255 :: v256 :: v257 :: v258 :: v259 :: v260 :: v261 :: v262 :: v263 :: v264 :: v265 :: []), defers := [] } w') (hk : a.k % 8 = 5) :
    Code.wp Tryd.prog (plC [1, 1, 1, 1, 1, 0, 1, 0, 0, 1, 0, 0, 1, 1, 1, 1, 1, 1, 1, 1, 0]) (Exit.then A fun _ _ _ => False) { tmps := List.toArray (av :: u1 :: .bool false :: .pointer (some ⟨D, 0, none⟩) :: .pointer (some ⟨T, 0, none⟩) :: u5 :: .slice la n lc :: .int .i64 (i : Int) :: .pointer (some ⟨X, 0, none⟩) :: .string s :: .int .i64 at_ :: u11 :: .slice na n nc :: .int .i64 0 :: .int .i64 0 :: u15 :: u16 :: u17 :: u18 :: u19 :: u20 :: u21 :: u22 :: u23 :: u24 :: u25 :: u26 :: u27 :: u28 :: u29 :: u30 :: u31 :: u32 :: u33 :: u34 :: u35 :: u36 :: u37 :: u38 :: u39 :: u40 :: u41 :: u42 :: u43 :: u44 :: u45 :: u46 :: u47 :: u48 :: u49 :: u50 :: u51 :: u52 :: u53 :: u54 :: u55 :: u56 :: u57 :: u58 :: u59 :: u60 :: u61 :: u62 :: u63 :: u64 :: u65 :: u66 :: u67 :: u68 :: u69 :: u70 :: u71 :: u72 :: u73 :: u74 :: u75 :: u76 :: u77 :: u78 :: u79 :: u80 :: u81 :: u82 :: u83 :: u84 :: u85 :: u86 :: u87 :: u88 :: u89 :: u90 :: u91 :: u92 :: u93 :: u94 :: u95 :: u96 :: u97 :: u98 :: u99 :: u100 :: u101 :: u102 :: u103 :: u104 :: u105 :: u106 :: u107 :: u108 :: u109 :: u110 :: u111 :: u112 :: u113 :: u114 :: u115 :: u116 :: u117 :: u118 :: u119 :: u120 :: u121 :: u122 :: u123 :: u124 :: u125 :: u126 :: u127 :: u128 :: u129 :: u130 :: u131 :: u132 :: u133 :: u134 :: u135 :: u136 :: u137 :: u138 :: u139 :: u140 :: u141 :: u142 :: u143 :: u144 :: u145 :: u146 :: u147 :: u148 :: u149 :: u150 :: u151 :: u152 :: u153 :: u154 :: u155 :: u156 :: u157 :: u158 :: u159 :: u160 :: u161 :: u162 :: u163 :: u164 :: u165 :: u166 :: u167 :: u168 :: u169 :: u170 :: u171 :: u172 :: u173 :: u174 :: u175 :: u176 :: u177 :: u178 :: u179 :: u180 :: u181 :: u182 :: u183 :: u184 :: u185 :: u186 :: u187 :: u188 :: u189 :: u190 :: u191 :: u192 :: u193 :: u194 :: u195 :: u196 :: u197 :: u198 :: u199 :: u200 :: u201 :: u202 :: u203 :: u204 :: u205 :: u206 :: u207 :: u208 :: u209 :: u210 :: u211 :: u212 :: u213 :: u214 :: u215 :: u216 :: u217 :: u218 :: u219 :: u220 :: u221 :: u222 :: u223 :: u224 :: u225 :: u226 :: u227 :: u228 :: u229 :: u230 :: u231 :: u232 :: u233 :: u234 :: u235 :: u236 :: u237 :: u238 :: u239 :: u240 :: u241 :: u242 :: u243 :: u244 :: u245 :: u246 :: u247 :: u248 :: u249 :: u250 :: u251 :: u252 :: u253 :: u254 :: u255 :: u256 :: u257 :: u258 :: u259 :: u260 :: u261 :: u262 :: u263 :: u264 :: u265 :: []), defers := [] } w := by
  have HA := Lib.hid hA
  have hl12 : n ≤ 12 := by rw [← hn, h.bes.perm.length_eq, ← h.good.len]; exact List.length_filter_le _ _
  have hcap := hv.row.cap hn
  have HNOW := Lib.hid h
  have HV := Lib.hid hv
  have HX := Lib.hid hX
  have HXM := Lib.hid hXm
  have HN := Lib.hid hn
  have HAT := Lib.hid hat
  have c0 : w.cell? ⟨X, 0, none⟩ = some (.int .u8 (a.k : Int)) := by have := hX 0 _ (act_k a); simpa using this
  have k1 : ((a.k : Int)).tmod 8 = 5 := by rw [Int.tmod_eq_emod_of_nonneg (by omega)]; omega
  have k2 : (a.k : Int) % 8 = 5 := by omega
  have k3 : IntKind.u8.wrap 5 = 5 := by rw [IntKind.wrap_u8]; omega
  clear hA h hv hnv hnm hX hXm hs hn hat tab haok hnsz
  conv => arg 2; whnf
  go_wp2_with fail
  refine (drop_any w B F T J D d L C (nn + 100) rs s (HNOW.out.lb.less (by omega))).mono ?_
  intro e w1 hdp
  rcases HAT.out with ⟨rfl, hno⟩ | ⟨p, hp, rfl, hpn⟩
  · obtain ⟨rfl, t1⟩ : e = .returned (.int .i64 2) ∧ Turn (fun _ => False) w w1 := by
      rcases hdp with ⟨_, h1, h2⟩ | ⟨hs, i, hi, _⟩
      · exact ⟨h1, h2⟩
      · exact absurd ((HNOW.out.bes.there HNOW.out.good s).1 i hs hi).2.1 (hno _ ((HNOW.out.bes.there HNOW.out.good s).1 i hs hi).2.2)
    have HT1 := Lib.hid t1
    clear hdp t1 hno HAT c0
    go_wp2_with fail
    exact HA.out _ _ _ _ _ _ _ _ _ _ _ _ _ _ _ _ _ _ _ _ _ _ _ _ _ _ _ _ _ _ _ _ _ _ _ _ _ _ _ _ _ _ _ _ _ _ _ _ _ _ _ _ _ _ _ _ _ _ _ _ _ _ _ _ _ _ _ _ _ _ _ _ _ _ _ _ _ _ _ _ _ _ _ _ _ _ _ _ _ _ _ _ _ _ _ _ _ _ _ _ _ _ _ _ _ _ _ _ _ _ _ _ _ _ _ _ _ _ _ _ _ _ _ _ _ _ _ _ _ _ _ _ _ _ _ _ _ _ _ _ _ _ _ _ _ _ _ _ _ _ _ _ _ _ _ _ _ _ _ _ _ _ _ _ _ _ _ _ _ _ _ _ _ _ _ _ _ _ _ _ _ _ _ _ _ _ _ _ _ _ _ _ _ _ _ _ _ _ _ _ _ _ _ _ _ _ _ _ _ _ _ _ _ _ _ _ _ _ _ _ _ _ _ _ _ _ _ _ _ _ _ _ _ _ _ _ _ _ _ _ _ _ _ _ _ _ _ _ _ _ _ _ _ _ _ _ _ _ _ _ (rangeAt_turn HX.out HT1.out id) (.inl ⟨rfl, by decide, .inr ⟨by decide, F, J, d, L, C, rs, ((HNOW.out.turn0 HT1.out).less (by omega)), HV.out.turn0 HT1.out⟩⟩)
  · have hpl : p < l.length := by rw [HN.out]; exact hp
    have hmem : l.getD p rf0 ∈ l := by rw [show l.getD p rf0 = l[p] by simp [List.getD, hpl]]; exact List.getElem_mem _
    obtain ⟨i, hi12, hget, hhas, ly⟩ : ∃ i, i < 12 ∧ l.getD p rf0 = rs.getD i rf0 ∧ hasN (rs.getD i rf0) = true ∧ LyPost w B F T J D d L C (nn + 100) rs i rf0 [] e w1 := by
      rcases hdp with ⟨h0, h1, h2⟩ | ⟨hs, i, hi, hi12, hly⟩
      · exact absurd hpn (((HNOW.out.bes.there HNOW.out.good s).2 h0).2 _ hmem)
      · obtain ⟨_, e2, e3⟩ := (HNOW.out.bes.there HNOW.out.good s).1 i hs hi
        refine ⟨i, hi12, rise_inj HNOW.out.bes.rise hmem e3 (by rw [hpn, e2]), ?_, hly⟩
        unfold hasN; rw [e2, decide_eq_false hs]; rfl
    obtain ⟨r, F1, rfl, haft, t1, hg1⟩ := aft_of HNOW.out hi12 rf0_ok (good_set HNOW.out.good i hi12 rf0 (.inl rfl)) secR_rf0 ly
    have hbc := HNOW.out.bes.cut HNOW.out.good.len i hi12 p hpl hget hhas
    have ho1 := HV.out.step t1 hg1
    have td : Turn (fun _ => False) w1 w1.drew := (Turn.refl _ w1).drew
    obtain ⟨v2, w2, hr2, ho2, t2⟩ := app_nil w1.drew _ _ ((ho1.row.turn td (fun _ _ => id)).take p (by omega)) (by rw [List.length_take]; omega)
    obtain ⟨vd, hvd⟩ : ∃ vd, Value.slice (if lc = p + 1 then la else la.map (·.add ((p + 1) * 34))) (n - (p + 1)) (lc - (p + 1)) = vd := ⟨_, rfl⟩
    have hrd : RowV w2 vd (l.drop (p + 1)) := by rw [← hvd]; exact (((ho1.row.turn td (fun _ _ => id)).turn t2 (fun _ _ => id)).drop HN.out (p + 1) (by omega))
    obtain ⟨v3, w3, hr3, ho3, t3⟩ := app_refs w2 _ v2 vd (l.take p) (l.drop (p + 1)) ho2 hrd t2.size (by rw [List.length_take, List.length_drop]; have := HN.out; omega)
    have t13 := td.trans (turn_on ho2 (Nat.le_refl _) t2 t3) (fun _ _ => id)
    have HVD := Lib.hid hvd
    have HR2 := Lib.hid hr2
    have HR3 := Lib.hid hr3
    have HAFT := Lib.hid (haft.turn0 t13)
    have HO1 := Lib.hid (ho1.turn0 t13)
    have HX3 := Lib.hid (rangeAt_turn (rangeAt_turn HX.out t1 HXM.out.2) t13 id)
    have HBC := Lib.hid hbc
    have HO3 := Lib.hid (show Own w3 F1 J T v3 (l.take p ++ l.drop (p + 1)) from by
      refine ⟨own_rowV ho3 (fun x hx => ?_), fun q h1 h2 => ⟨(own_new ho3 q h1).2, fun hm => ?_⟩⟩
      · rcases List.mem_append.1 hx with hx | hx
        · exact HV.out.row.ok x (List.mem_of_mem_take hx)
        · exact HV.out.row.ok x (List.mem_of_mem_drop hx)
      · have h3 := haft.lt q hm
        have h4 : w1.heap.size ≤ q := (own_new ho3 q h1).1
        omega)
    clear hdp ly haft t1 hg1 hbc ho1 td hr2 ho2 t2 hvd hrd hr3 ho3 t3 t13 hget hhas hmem hpn HAT c0
    have dp : decide ((p : Int) < 0) = false := decide_eq_false (by omega)
    have wp1 : IntKind.i64.wrap ((p : Int) + 1) = (p : Int) + 1 := by rw [IntKind.wrap_i64]; omega
    go_wp2_with fail
    refine wp_region_held_drew (S := fun _ => True) (by kernel_rfl) trivial (fun hHeld => ?_)
    refine wpAnyH_take (i := 0) (v := .slice la n lc) rfl (by kernel_rfl) (by kernel_rfl) (by kernel_rfl) (fun _ _ _ h => h) (Or.inl ⟨by rfl, ?yq1⟩) (by assumption) ?rq1
    case yq1 => (intro wq hSw; (try simp only [List.getElem_toArray, List.getElem_cons_zero, List.getElem_cons_succ]); go_simp; (try with_reducible rfl); all_goals (try omega))
    case rq1 =>
    try simp only [Act.put, List.setIfInBounds_toArray, List.set_cons_zero, List.set_cons_succ, List.getElem_toArray, List.getElem_cons_zero, List.getElem_cons_succ]
    refine wpAnyH_take (i := 1) (v := .int .i64 (p : Int)) rfl (by kernel_rfl) (by kernel_rfl) (by kernel_rfl) (fun _ _ _ h => h) (Or.inl ⟨by rfl, ?yq2⟩) (by assumption) ?rq2
    case yq2 => (intro wq hSw; (try simp only [List.getElem_toArray, List.getElem_cons_zero, List.getElem_cons_succ]); go_simp; (try with_reducible rfl); all_goals (try omega))
    case rq2 =>
    try simp only [Act.put, List.setIfInBounds_toArray, List.set_cons_zero, List.set_cons_succ, List.getElem_toArray, List.getElem_cons_zero, List.getElem_cons_succ]
    refine wpAnyH_take (i := 2) (v := .slice la p lc) rfl (by kernel_rfl) (by kernel_rfl) (by kernel_rfl) (fun _ _ _ h => h) (Or.inl ⟨by rfl, ?yq3⟩) (by assumption) ?rq3
    case yq3 => (intro wq hSw; exact exec_slice_hi _ _ rfl la n lc p rfl rfl (by omega) wq)
    case rq3 =>
    try simp only [Act.put, List.setIfInBounds_toArray, List.set_cons_zero, List.set_cons_succ, List.getElem_toArray, List.getElem_cons_zero, List.getElem_cons_succ]
    refine wpAnyH_take (i := 4) (v := .slice la n lc) rfl (by kernel_rfl) (by kernel_rfl) (by kernel_rfl) (fun _ _ _ h => h) (Or.inl ⟨by rfl, ?yq4⟩) (by assumption) ?rq4
    case yq4 => (intro wq hSw; (try simp only [List.getElem_toArray, List.getElem_cons_zero, List.getElem_cons_succ]); go_simp; (try with_reducible rfl); all_goals (try omega))
    case rq4 =>
    try simp only [Act.put, List.setIfInBounds_toArray, List.set_cons_zero, List.set_cons_succ, List.getElem_toArray, List.getElem_cons_zero, List.getElem_cons_succ]
    refine wpAnyH_take (i := 5) (v := .int .i64 (p : Int)) rfl (by kernel_rfl) (by kernel_rfl) (by kernel_rfl) (fun _ _ _ h => h) (Or.inl ⟨by rfl, ?yq5⟩) (by assumption) ?rq5
    case yq5 => (intro wq hSw; (try simp only [List.getElem_toArray, List.getElem_cons_zero, List.getElem_cons_succ]); go_simp; (try with_reducible rfl); all_goals (try omega))
    case rq5 =>
    try simp only [Act.put, List.setIfInBounds_toArray, List.set_cons_zero, List.set_cons_succ, List.getElem_toArray, List.getElem_cons_zero, List.getElem_cons_succ]
    refine wpAnyH_take (i := 6) (v := .int .i64 ((p : Int) + 1)) rfl (by kernel_rfl) (by kernel_rfl) (by kernel_rfl) (fun _ _ _ h => h) (Or.inl ⟨by rfl, ?yq6⟩) (by assumption) ?rq6
    case yq6 => (intro wq hSw; (try simp only [List.getElem_toArray, List.getElem_cons_zero, List.getElem_cons_succ]); go_simp; (try with_reducible rfl); all_goals (try omega))
    case rq6 =>
    try simp only [Act.put, List.setIfInBounds_toArray, List.set_cons_zero, List.set_cons_succ, List.getElem_toArray, List.getElem_cons_zero, List.getElem_cons_succ]
    refine wpAnyH_take (i := 7) (v := vd) rfl (by kernel_rfl) (by kernel_rfl) (by kernel_rfl) (fun _ _ _ h => h) (Or.inl ⟨by rfl, ?yq7⟩) (by assumption) ?rq7
    case yq7 => (intro wq hSw; rw [← HVD.out]; exact exec_slice_lo _ _ rfl la n lc (p + 1) rfl rfl (by omega) wq)
    case rq7 =>
    try simp only [Act.put, List.setIfInBounds_toArray, List.set_cons_zero, List.set_cons_succ, List.getElem_toArray, List.getElem_cons_zero, List.getElem_cons_succ]
    refine wpAnyH_ready (rs := [3]) (by kernel_rfl) (by simp) ?_
    refine AllReadyH.cons rfl (fun K hK => ?_) AllReadyH.nil
    rw [if_pos (by rfl)]
    refine wp_exec (exec_append2 _ _ (.const (.slice none 0 0)) (.tmp 155) 29 29 rfl _ _ _ _ _ rfl rfl HR2.out) ?_
    refine hK.out _ _ trivial (fun _ => ?_)
    clear hK K
    try simp only [Act.put, List.setIfInBounds_toArray, List.set_cons_zero, List.set_cons_succ, List.getElem_toArray, List.getElem_cons_zero, List.getElem_cons_succ]
    refine wpAnyH_ready (rs := [8]) (by kernel_rfl) (by simp) ?_
    refine AllReadyH.cons rfl (fun K hK => ?_) AllReadyH.nil
    rw [if_pos (by rfl)]
    refine wp_exec (exec_append2 _ _ (.tmp 156) (.tmp 160) 29 29 rfl _ _ _ _ _ rfl rfl HR3.out) ?_
    refine hK.out _ _ trivial (fun _ => ?_)
    clear hK K
    try simp only [Act.put, List.setIfInBounds_toArray, List.set_cons_zero, List.set_cons_succ, List.getElem_toArray, List.getElem_cons_zero, List.getElem_cons_succ]
    refine wpAnyH_take (i := 9) (v := v3) rfl (by kernel_rfl) (by kernel_rfl) (by kernel_rfl) (fun _ _ _ h => h) (Or.inl ⟨by rfl, ?yq8⟩) (by assumption) ?rq8
    case yq8 => (intro wq hSw; (try simp only [List.getElem_toArray, List.getElem_cons_zero, List.getElem_cons_succ]); go_simp; (try with_reducible rfl); all_goals (try omega))
    case rq8 =>
    try simp only [Act.put, List.setIfInBounds_toArray, List.set_cons_zero, List.set_cons_succ, List.getElem_toArray, List.getElem_cons_zero, List.getElem_cons_succ]
    refine wpAnyH_done (by kernel_rfl) ?_ _
    clear hHeld
    go_wp2_with fail
    exact HA.out _ _ _ _ _ _ _ _ _ _ _ _ _ _ _ _ _ _ _ _ _ _ _ _ _ _ _ _ _ _ _ _ _ _ _ _ _ _ _ _ _ _ _ _ _ _ _ _ _ _ _ _ _ _ _ _ _ _ _ _ _ _ _ _ _ _ _ _ _ _ _ _ _ _ _ _ _ _ _ _ _ _ _ _ _ _ _ _ _ _ _ _ _ _ _ _ _ _ _ _ _ _ _ _ _ _ _ _ _ _ _ _ _ _ _ _ _ _ _ _ _ _ _ _ _ _ _ _ _ _ _ _ _ _ _ _ _ _ _ _ _ _ _ _ _ _ _ _ _ _ _ _ _ _ _ _ _ _ _ _ _ _ _ _ _ _ _ _ _ _ _ _ _ _ _ _ _ _ _ _ _ _ _ _ _ _ _ _ _ _ _ _ _ _ _ _ _ _ _ _ _ _ _ _ _ _ _ _ _ _ _ _ _ _ _ _ _ _ _ _ _ _ _ _ _ _ _ _ _ _ _ _ _ _ _ _ _ _ _ _ _ _ _ _ _ _ _ _ _ _ _ _ _ _ _ _ _ _ _ _ HX3.out (HAFT.out.sw HNOW.out.bes HBC.out HO1.out HO3.out)
end Go.Proofs.YtnenkclihgeacaaDoor
/- Own contracts: an act that moves a ref (3). No statement is proved here. -/
namespace Go.Proofs.YtnenkclihgeacaaDoor
set_option maxRecDepth 100000
open Go.RowKit
set_option linter.unusedVariables false
set_option linter.unusedSimpArgs false

theorem at_vals {x : Rf} (hx : x.Ok) (ks : List Int) : x.vals.take 1 ++ keyV ks ++ x.vals.drop 33 = (x.at ks).vals := by
  have : (x.key.map (Value.int .u8) ++ [Value.bool x.fast]).drop 32 = [Value.bool x.fast] := by rw [List.drop_append, List.drop_of_length_le (by simp [hx.len])]; simp [hx.len]
  simp only [Rf.vals, Rf.at, keyV, List.take_succ_cons, List.take_zero, List.drop_succ_cons, this]
  simp
theorem RB.setKey {w : World} {g : Nat} {rs : List Rf} {ex : List Value} (h : RB w g rs ex) (k : Nat) (hk : k < rs.length) (ks : List Int) (hkl : ks.length = 32) (hkb : BytesOk ks) : RB (w.setCells g (k * 34 + 1) (keyV ks)) g (rs.set k ((rs.getD k rf0).at ks)) ex := by
  have hv := h.vlen
  have hx : (rs.getD k rf0).Ok := h.get k hk
  have ho : ((rs.getD k rf0).at ks).Ok := ⟨hkl, hkb⟩
  have hkV : (keyV ks).length = 32 := by simp [keyV, hkl]
  have h1 := heap_setCells g 37 (keyV ks) (k * 34 + 1) w (rfsV rs ++ ex) h.at_ (by rw [List.length_append, hkV]; omega)
  refine ⟨?_, fun x hx => ?_⟩
  · rw [h1]
    congr 2
    apply congrArg List.toArray
    rw [rfsV_set h.ok _ ho k hk, hkV, List.take_append_of_le_length (by omega), List.drop_append_of_le_length (by omega)]
    have hp := rfsV_part h.ok k hk
    have e1 : rfsV rs = (rfsV rs).take (k * 34) ++ ((rs.getD k rf0).vals ++ (rfsV rs).drop (k * 34 + 34)) := by
      rw [← hp, ← List.drop_drop, List.take_append_drop, List.take_append_drop]
    have hl : ((rfsV rs).take (k * 34)).length = k * 34 := by rw [List.length_take]; omega
    have e2 : (rfsV rs).take (k * 34 + 1) = (rfsV rs).take (k * 34) ++ (rs.getD k rf0).vals.take 1 := by
      conv => lhs; rw [e1]
      rw [List.take_append, hl, List.take_of_length_le (by rw [hl]; omega), show k * 34 + 1 - k * 34 = 1 by omega, List.take_append_of_le_length (by rw [hx.vlen]; omega)]
    have e3 : (rfsV rs).drop (k * 34 + 1 + 32) = (rs.getD k rf0).vals.drop 33 ++ (rfsV rs).drop (k * 34 + 34) := by
      conv => lhs; rw [e1]
      rw [List.drop_append, hl, List.drop_of_length_le (by rw [hl]; omega), List.nil_append, show k * 34 + 1 + 32 - k * 34 = 33 by omega, List.drop_append_of_le_length (by rw [hx.vlen]; omega)]
    have e4 := at_vals hx ks
    rw [e2, e3, ← e4]
    simp
  · rcases List.mem_or_eq_of_mem_set hx with h1 | h1
    · exact h.ok x h1
    · subst h1; exact ho
theorem getR_mem {rs : List Rf} {i : Nat} (h : i < rs.length) : rs.getD i rf0 ∈ rs := by rw [show rs.getD i rf0 = rs[i] by simp [List.getD, h]]; exact List.getElem_mem _
theorem GoodR.size {rs : List Rf} (g : GoodR rs 12) : ∀ x ∈ rs, x.name.size ≤ 12 := fun x hx => by
  obtain ⟨i, hi, rfl⟩ := List.getElem_of_mem hx
  have hi12 : i < 12 := by have := g.len; omega
  have hg : rs.getD i rf0 = rs[i] := by simp [List.getD, hi]
  rcases g.each i hi12 with h | h
  · rw [hg] at h; rw [h]; decide
  · rw [hg] at h; exact (right_size h).2
theorem GoodR.moved {rs : List Rf} (g : GoodR rs 12) (i : Nat) (hi : i < 12) (hne : (rs.getD i rf0).name ≠ ByteArray.empty) (ks : List Int) : GoodR (rs.set i ((rs.getD i rf0).at ks)) 12 := by
  refine good_set g i hi _ (.inr ⟨?_, fun j hj hji he => ?_⟩)
  · rcases g.each i hi with h | h
    · rw [h] at hne; exact absurd rfl hne
    · exact h
  · rcases Nat.lt_trichotomy j i with h | h | h
    · exact hne (g.uniq j i h hi he)
    · exact hji h
    · have h1 := g.uniq i j h hj he.symm
      exact hne (he.symm.trans h1)
theorem keyV_len {ks : List Int} (h : ks.length = 32) : (keyV ks).length = 32 := by simp [keyV, h]
theorem act_key {w : World} {X : Nat} {a : ActM} (h : w.rangeAt X 0 a.vals) : w.rangeAt X 3 (keyV a.key) := fun j v hj => by
  have := h (3 + j) v (by
    rw [ActM.vals, Nat.add_comm 3 j]
    show (keyV a.key ++ _)[j]? = _
    rw [List.getElem?_append_left (List.getElem?_eq_some_iff.1 hj).1]
    exact hj)
  simpa using this
set_option maxHeartbeats 16000000 in
theorem sw_move3 (u1 u5 u11 u15 u16 u17 u18 u19 u20 u21 u22 u23 u24 u25 u26 u27 u28 u29 u30 u31 u32 u33 u34 u35 u36 u37 u38 u39 u40 u41 u42 u43 u44 u45 u46 u47 u48 u49 u50 u51 u52 u53 u54 u55 u56 u57 u58 u59 u60 u61 u62 u63 u64 u65 u66 u67 u68 u69 u70 u71 u72 u73 u74 u75 u76 u77 u78 u79 u80 u81 u82 u83 u84 u85 u86 u87 u88 u89 u90 u91 u92 u93 u94 u95 u96 u97 u98 u99 u100 u101 u102 u103 u104 u105 u106 u107 u108 u109 u110 u111 u112 u113 u114 u115 u116 u117 u118 u119 u120 u121 u122 u123 u124 u125 u126 u127 u128 u129 u130 u131 u132 u133 u134 u135 u136 u137 u138 u139 u140 u141 u142 u143 u144 u145 u146 u147 u148 u149 u150 u151 u152 u153 u154 u155 u156 u157 u158 u159 u160 u161 u162 u163 u164 u165 u166 u167 u168 u169 u170 u171 u172 u173 u174 u175 u176 u177 u178 u179 u180 u181 u182 u183 u184 u185 u186 u187 u188 u189 u190 u191 u192 u193 u194 u195 u196 u197 u198 u199 u200 u201 u202 u203 u204 u205 u206 u207 u208 u209 u210 u211 u212 u213 u214 u215 u216 u217 u218 u219 u220 u221 u222 u223 u224 u225 u226 u227 u228 u229 u230 u231 u232 u233 u234 u235 u236 u237 u238 u239 u240 u241 u242 u243 u244 u245 u246 u247 u248 u249 u250 u251 u252 u253 u254 u255 u256 u257 u258 u259 u260 u261 u262 u263 u264 u265 av : Value) (W w : World) (B : Nat) (F : Nat → Prop) (T J D : Nat) (d : DiskM) (L : Nat) (C : List (List Int)) (nn : Nat) (rs l : List Rf) (la na : Option Addr) (n lc nc i X : Nat) (s : ByteArray) (at_ : Int) (a : ActM)
    (h : Now W w B F T J D d L C (nn + 400) rs l) (hn : l.length = n) (hv : Own w F J T (.slice la n lc) l) (Pb : Nat) (hnv : w.ownsRow Pb 37 34 (.slice na n nc) n (rfsV l)) (hnm : ∀ q, (Value.slice na n nc).ownBlock = some q → q < w.heap.size ∧ ¬ Mn F J T q ∧ W.heap.size ≤ q ∧ q ≠ X ∧ (∀ p, (Value.slice la n lc).ownBlock = some p → p ≠ q)) (hX : w.rangeAt X 0 a.vals) (hXm : X < w.heap.size ∧ ¬ Mn F J T X) (hs : s = a.nm) (haok : a.Ok) (hnsz : s.size ≤ 9223372036854775807) (tab : Tab W)
    (hat : (at_ = -1 ∧ ∀ x ∈ l, x.name ≠ s) ∨ ∃ p : Nat, p < n ∧ at_ = (p : Int) ∧ (l.getD p rf0).name = s) (A : Act → World → Prop)
    (hA : ∀ (v1 v5 v10 v11 v15 v16 v17 v18 v19 v20 v21 v22 v23 v24 v25 v26 v27 v28 v29 v30 v31 v32 v33 v34 v35 v36 v37 v38 v39 v40 v41 v42 v43 v44 v45 v46 v47 v48 v49 v50 v51 v52 v53 v54 v55 v56 v57 v58 v59 v60 v61 v62 v63 v64 v65 v66 v67 v68 v69 v70 v71 v72 v73 v74 v75 v76 v77 v78 v79 v80 v81 v82 v83 v84 v85 v86 v87 v88 v89 v90 v91 v92 v93 v94 v95 v96 v97 v98 v99 v100 v101 v102 v103 v104 v105 v106 v107 v108 v109 v110 v111 v112 v113 v114 v115 v116 v117 v118 v119 v120 v121 v122 v123 v124 v125 v126 v127 v128 v129 v130 v131 v132 v133 v134 v135 v136 v137 v138 v139 v140 v141 v142 v143 v144 v145 v146 v147 v148 v149 v150 v151 v152 v153 v154 v155 v156 v157 v158 v159 v160 v161 v162 v163 v164 v165 v166 v167 v168 v169 v170 v171 v172 v173 v174 v175 v176 v177 v178 v179 v180 v181 v182 v183 v184 v185 v186 v187 v188 v189 v190 v191 v192 v193 v194 v195 v196 v197 v198 v199 v200 v201 v202 v203 v204 v205 v206 v207 v208 v209 v210 v211 v212 v213 v214 v215 v216 v217 v218 v219 v220 v221 v222 v223 v224 v225 v226 v227 v228 v229 v230 v231 v232 v233 v234 v235 v236 v237 v238 v239 v240 v241 v242 v243 v244 v245 v246 v247 v248 v249 v250 v251 v252 v253 v254 v255 v256 v257 v258 v259 v260 v261 v262 v263 v264 v265 : Value) (T1 : Nat) (nv1 : Value) (wt ea : Int) (w' : World), w'.rangeAt X 0 a.vals → Sw W w' B D nn l (.slice la n lc) T1 nv1 wt ea → A { tmps := List.toArray (av :: v1 :: .bool false :: .pointer (some ⟨D, 0, none⟩) :: .pointer (some ⟨T1, 0, none⟩) :: v5 :: .slice la n lc :: .int .i64 (i : Int) :: .pointer (some ⟨X, 0, none⟩) :: .string s :: v10 :: v11 :: nv1 :: .int .i64 wt :: .int .i64 ea :: v15 :: v16 :: v17 :: v18 :: v19 :: v20 :: v21 :: v22 :: v23 :: v24 :: v25 :: v26 :: v27 :: v28 :: v29 :: v30 :: v31 :: v32 :: v33 :: v34 :: v35 :: v36 :: v37 :: v38 :: v39 :: v40 :: v41 :: v42 :: v43 :: v44 :: v45 :: v46 :: v47 :: v48 :: v49 :: v50 :: v51 :: v52 :: v53 :: v54 :: v55 :: v56 :: v57 :: v58 :: v59 :: v60 :: v61 :: v62 :: v63 :: v64 :: v65 :: v66 :: v67 :: v68 :: v69 :: v70 :: v71 :: v72 :: v73 :: v74 :: v75 :: v76 :: v77 :: v78 :: v79 :: v80 :: v81 :: v82 :: v83 :: v84 :: v85 :: v86 :: v87 :: v88 :: v89 :: v90 :: v91 :: v92 :: v93 :: v94 :: v95 :: v96 :: v97 :: v98 :: v99 :: v100 :: v101 :: v102 :: v103 :: v104 :: v105 :: v106 :: v107 :: v108 :: v109 :: v110 :: v111 :: v112 :: v113 :: v114 :: v115 :: v116 :: v117 :: v118 :: v119 :: v120 :: v121 :: v122 :: v123 :: v124 :: v125 :: v126 :: v127 :: v128 :: v129 :: v130 :: v131 :: v132 :: v133 :: v134 :: v135 :: v136 :: v137 :: v138 :: v139 :: v140 :: v141 :: v142 :: v143 :: v144 :: v145 :: v146 :: v147 :: v148 :: v149 :: v150 :: v151 :: v152 :: v153 :: v154 :: v155 :: v156 :: v157 :: v158 :: v159 :: v160 :: v161 :: v162 :: v163 :: v164 :: v165 :: v166 :: v167 :: v168 :: v169 :: v170 :: v171 :: v172 :: v173 :: v174 :: v175 :: v176 :: v177 :: v178 :: v179 :: v180 :: v181 :: v182 :: v183 :: v184 :: v185 :: v186 :: v187 :: v188 :: v189 :: v190 :: v191 :: v192 :: v193 :: v194 :: v195 :: v196 :: v197 :: v198 :: v199 :: v200 :: v201 :: v202 :: v203 :: v204 :: v205 :: v206 :: v207 :: v208 :: v209 :: v210 :: v211 :: v212 :: v213 :: v214 :: v215 :: v216 :: v217 :: v218 :: v219 :: v220 :: v221 :: v222 :: v223 :: v224 :: v225 :: v226 :: v227 :: v228 :: v229 :: v230 :: v231 :: v232 :: v233 :: v234 :: v235 :: v236 :: v237 :: v238 :: v239 :: v240 :: v241 :: v242 :: v243 :: v244 :: v245 :: v246 :: v247 :: v248 :: v249 :: v250 :: v251 :: v252 :: v253 :: v254 :: v255 :: v256 :: v257 :: v258 :: v259 :: v260 :: v261 :: v262 :: v263 :: v264 :: v265 :: []), defers := [] } w') (hk : a.k % 8 = 3) :
    Code.wp Tryd.prog (plC [1, 1, 1, 1, 1, 0, 1, 0, 0, 1, 0, 0, 1, 1, 1, 1, 1, 1, 1, 1, 0]) (Exit.then A fun _ _ _ => False) { tmps := List.toArray (av :: u1 :: .bool false :: .pointer (some ⟨D, 0, none⟩) :: .pointer (some ⟨T, 0, none⟩) :: u5 :: .slice la n lc :: .int .i64 (i : Int) :: .pointer (some ⟨X, 0, none⟩) :: .string s :: .int .i64 at_ :: u11 :: .slice na n nc :: .int .i64 0 :: .int .i64 0 :: u15 :: u16 :: u17 :: u18 :: u19 :: u20 :: u21 :: u22 :: u23 :: u24 :: u25 :: u26 :: u27 :: u28 :: u29 :: u30 :: u31 :: u32 :: u33 :: u34 :: u35 :: u36 :: u37 :: u38 :: u39 :: u40 :: u41 :: u42 :: u43 :: u44 :: u45 :: u46 :: u47 :: u48 :: u49 :: u50 :: u51 :: u52 :: u53 :: u54 :: u55 :: u56 :: u57 :: u58 :: u59 :: u60 :: u61 :: u62 :: u63 :: u64 :: u65 :: u66 :: u67 :: u68 :: u69 :: u70 :: u71 :: u72 :: u73 :: u74 :: u75 :: u76 :: u77 :: u78 :: u79 :: u80 :: u81 :: u82 :: u83 :: u84 :: u85 :: u86 :: u87 :: u88 :: u89 :: u90 :: u91 :: u92 :: u93 :: u94 :: u95 :: u96 :: u97 :: u98 :: u99 :: u100 :: u101 :: u102 :: u103 :: u104 :: u105 :: u106 :: u107 :: u108 :: u109 :: u110 :: u111 :: u112 :: u113 :: u114 :: u115 :: u116 :: u117 :: u118 :: u119 :: u120 :: u121 :: u122 :: u123 :: u124 :: u125 :: u126 :: u127 :: u128 :: u129 :: u130 :: u131 :: u132 :: u133 :: u134 :: u135 :: u136 :: u137 :: u138 :: u139 :: u140 :: u141 :: u142 :: u143 :: u144 :: u145 :: u146 :: u147 :: u148 :: u149 :: u150 :: u151 :: u152 :: u153 :: u154 :: u155 :: u156 :: u157 :: u158 :: u159 :: u160 :: u161 :: u162 :: u163 :: u164 :: u165 :: u166 :: u167 :: u168 :: u169 :: u170 :: u171 :: u172 :: u173 :: u174 :: u175 :: u176 :: u177 :: u178 :: u179 :: u180 :: u181 :: u182 :: u183 :: u184 :: u185 :: u186 :: u187 :: u188 :: u189 :: u190 :: u191 :: u192 :: u193 :: u194 :: u195 :: u196 :: u197 :: u198 :: u199 :: u200 :: u201 :: u202 :: u203 :: u204 :: u205 :: u206 :: u207 :: u208 :: u209 :: u210 :: u211 :: u212 :: u213 :: u214 :: u215 :: u216 :: u217 :: u218 :: u219 :: u220 :: u221 :: u222 :: u223 :: u224 :: u225 :: u226 :: u227 :: u228 :: u229 :: u230 :: u231 :: u232 :: u233 :: u234 :: u235 :: u236 :: u237 :: u238 :: u239 :: u240 :: u241 :: u242 :: u243 :: u244 :: u245 :: u246 :: u247 :: u248 :: u249 :: u250 :: u251 :: u252 :: u253 :: u254 :: u255 :: u256 :: u257 :: u258 :: u259 :: u260 :: u261 :: u262 :: u263 :: u264 :: u265 :: []), defers := [] } w := by
  have HA := Lib.hid hA
  have hl12 : n ≤ 12 := by rw [← hn, h.bes.perm.length_eq, ← h.good.len]; exact List.length_filter_le _ _
  have hcap := hv.row.cap hn
  have HNOW := Lib.hid h
  have HV := Lib.hid hv
  have HNV := Lib.hid hnv
  have HNM := Lib.hid hnm
  have HX := Lib.hid hX
  have HXM := Lib.hid hXm
  have HN := Lib.hid hn
  have HAT := Lib.hid hat
  have HAOK := Lib.hid haok
  have HTW := Lib.hid tab
  have c0 : w.cell? ⟨X, 0, none⟩ = some (.int .u8 (a.k : Int)) := by have := hX 0 _ (act_k a); simpa using this
  have k1 : ((a.k : Int)).tmod 8 = 3 := by rw [Int.tmod_eq_emod_of_nonneg (by omega)]; omega
  have k2 : (a.k : Int) % 8 = 3 := by omega
  have k3 : IntKind.u8.wrap 3 = 3 := by rw [IntKind.wrap_u8]; omega
  clear hA h hv hnv hnm hX hXm hs hn hat tab haok hnsz
  conv => arg 2; whnf
  go_wp2_with (with_reducible (show wpList _ _ _ (Oper.mk (some 131) (.load 30 (.tmp 130)) _ _ _ _ :: _) _ _); refine still ?_)
  refine wpList_load_mid rfl 30 (.tmp 130) rfl X 3 (by first | rfl | simp) (keyV a.key) _ (act_key HX.out) Tryd.underlying30 rfl (by rw [keyV_len HAOK.out.klen]; kernel_rfl) ?_
  go_wp2_with fail
  refine (move_any w B F T J D d L C (nn + 100) rs s a.key (HNOW.out.lb.less (by omega)) HNOW.out.good.size HAOK.out.klen HAOK.out.kok).mono ?_
  intro e w1 hmv
  rcases HAT.out with ⟨rfl, hno⟩ | ⟨p, hp, rfl, hpn⟩
  · obtain ⟨rfl, t1⟩ : e = .returned (.int .i64 2) ∧ Turn (fun _ => False) w w1 := by
      rcases hmv with ⟨_, h1, h2⟩ | ⟨hs, i, hi, _⟩ | ⟨hs, i, hi, _⟩
      · exact ⟨h1, h2⟩
      · exact absurd ((HNOW.out.bes.there HNOW.out.good s).1 i hs hi).2.1 (hno _ ((HNOW.out.bes.there HNOW.out.good s).1 i hs hi).2.2)
      · exact absurd ((HNOW.out.bes.there HNOW.out.good s).1 i hs hi).2.1 (hno _ ((HNOW.out.bes.there HNOW.out.good s).1 i hs hi).2.2)
    have HT1 := Lib.hid t1
    clear hmv t1 hno HAT c0
    go_wp2_with fail
    exact HA.out _ _ _ _ _ _ _ _ _ _ _ _ _ _ _ _ _ _ _ _ _ _ _ _ _ _ _ _ _ _ _ _ _ _ _ _ _ _ _ _ _ _ _ _ _ _ _ _ _ _ _ _ _ _ _ _ _ _ _ _ _ _ _ _ _ _ _ _ _ _ _ _ _ _ _ _ _ _ _ _ _ _ _ _ _ _ _ _ _ _ _ _ _ _ _ _ _ _ _ _ _ _ _ _ _ _ _ _ _ _ _ _ _ _ _ _ _ _ _ _ _ _ _ _ _ _ _ _ _ _ _ _ _ _ _ _ _ _ _ _ _ _ _ _ _ _ _ _ _ _ _ _ _ _ _ _ _ _ _ _ _ _ _ _ _ _ _ _ _ _ _ _ _ _ _ _ _ _ _ _ _ _ _ _ _ _ _ _ _ _ _ _ _ _ _ _ _ _ _ _ _ _ _ _ _ _ _ _ _ _ _ _ _ _ _ _ _ _ _ _ _ _ _ _ _ _ _ _ _ _ _ _ _ _ _ _ _ _ _ _ _ _ _ _ _ _ _ _ _ _ _ _ _ _ _ _ _ _ _ _ (rangeAt_turn HX.out HT1.out id) (.inl ⟨rfl, by decide, .inr ⟨by decide, F, J, d, L, C, rs, ((HNOW.out.turn0 HT1.out).less (by omega)), HV.out.turn0 HT1.out⟩⟩)
  · have hpl : p < l.length := by rw [HN.out]; exact hp
    have hmem : l.getD p rf0 ∈ l := getR_mem hpl
    have hpok := HV.out.row.ok _ hmem
    have gp : (0 : Int) ≤ (p : Int) ∧ (p : Int) < (n : Int) := by omega
    have dp : decide ((p : Int) < 0) = false := decide_eq_false (by omega)
    obtain ⟨i, hi12, hget, hne, hmv2⟩ : ∃ i, i < 12 ∧ l.getD p rf0 = rs.getD i rf0 ∧ (rs.getD i rf0).name ≠ ByteArray.empty ∧ (((rs.getD i rf0).fast = true ∧ e = .returned (.int .i64 13) ∧ Turn (fun _ => False) w w1) ∨ ((rs.getD i rf0).fast = false ∧ LyPost w B F T J D d L C (nn + 100) rs i ((rs.getD i rf0).at a.key) (sealB (refB ((rs.getD i rf0).at a.key))) e w1)) := by
      rcases hmv with ⟨h0, h1, h2⟩ | ⟨hs, i, hi, hi12, hfa, he, ht⟩ | ⟨hs, i, hi, hi12, hfa, hly⟩
      · exact absurd hpn (((HNOW.out.bes.there HNOW.out.good s).2 h0).2 _ hmem)
      · obtain ⟨_, e2, e3⟩ := (HNOW.out.bes.there HNOW.out.good s).1 i hs hi
        exact ⟨i, hi12, rise_inj HNOW.out.bes.rise hmem e3 (by rw [hpn, e2]), by rw [e2]; exact hs, .inl ⟨hfa, he, ht⟩⟩
      · obtain ⟨_, e2, e3⟩ := (HNOW.out.bes.there HNOW.out.good s).1 i hs hi
        exact ⟨i, hi12, rise_inj HNOW.out.bes.rise hmem e3 (by rw [hpn, e2]), by rw [e2]; exact hs, .inr ⟨hfa, hly⟩⟩
    obtain ⟨g1, o1, e1, hc1, hr1⟩ : ∃ g o, la = some ⟨g, o, none⟩ ∧ n ≤ lc ∧ w.rangeAt g (o + p * 34) (l.getD p rf0).vals := by
      rcases HV.out.row.at_ with ⟨c, h, h0⟩ | ⟨g, o, c, h, h3, _, h4⟩
      · rw [h0] at hpl; simp at hpl
      · injection h with q1 q2 q3
        exact ⟨g, o, q1, by rw [q3, ← HN.out]; exact h3, h4 p hpl⟩
    have hg1l := (HV.out.off g1 (by rw [e1]; rfl) (by omega))
    subst e1
    have cf : (l.getD p rf0).vals[33]? = some (.bool (l.getD p rf0).fast) := Rf.v33 _ hpok
    rw [hget] at cf
    rcases hmv2 with ⟨hfa, rfl, t1⟩ | ⟨hfa, ly⟩
    · rw [hfa] at cf
      have c33 : w1.cell? ⟨g1, o1 + p * 34 + 33, none⟩ = some (.bool true) := rangeAt_turn hr1 t1 id 33 _ (by rw [hget]; exact cf)
      have HT1 := Lib.hid t1
      clear hmv t1 HAT c0 hr1 cf hget hne hfa hpn hmem hpok
      go_wp2_with fail
      exact HA.out _ _ _ _ _ _ _ _ _ _ _ _ _ _ _ _ _ _ _ _ _ _ _ _ _ _ _ _ _ _ _ _ _ _ _ _ _ _ _ _ _ _ _ _ _ _ _ _ _ _ _ _ _ _ _ _ _ _ _ _ _ _ _ _ _ _ _ _ _ _ _ _ _ _ _ _ _ _ _ _ _ _ _ _ _ _ _ _ _ _ _ _ _ _ _ _ _ _ _ _ _ _ _ _ _ _ _ _ _ _ _ _ _ _ _ _ _ _ _ _ _ _ _ _ _ _ _ _ _ _ _ _ _ _ _ _ _ _ _ _ _ _ _ _ _ _ _ _ _ _ _ _ _ _ _ _ _ _ _ _ _ _ _ _ _ _ _ _ _ _ _ _ _ _ _ _ _ _ _ _ _ _ _ _ _ _ _ _ _ _ _ _ _ _ _ _ _ _ _ _ _ _ _ _ _ _ _ _ _ _ _ _ _ _ _ _ _ _ _ _ _ _ _ _ _ _ _ _ _ _ _ _ _ _ _ _ _ _ _ _ _ _ _ _ _ _ _ _ _ _ _ _ _ _ _ _ _ _ _ _ (rangeAt_turn HX.out HT1.out id) (.inl ⟨rfl, by decide, .inr ⟨by decide, F, J, d, L, C, rs, ((HNOW.out.turn0 HT1.out).less (by omega)), HV.out.turn0 HT1.out⟩⟩)
    · rw [hfa] at cf
      obtain ⟨r, F1, rfl, haft, t1, hgr⟩ := aft_of HNOW.out hi12 (show ((rs.getD i rf0).at a.key).Ok from ⟨HAOK.out.klen, HAOK.out.kok⟩) (HNOW.out.good.moved i hi12 hne a.key) (secR_seal (fun e => hne (by have := congrArg Rf.name e; exact this))) ly
      have c33 : w1.cell? ⟨g1, o1 + p * 34 + 33, none⟩ = some (.bool false) := rangeAt_turn hr1 t1 hg1l.2 33 _ (by rw [hget]; exact cf)
      have hbm := HNOW.out.bes.move HNOW.out.good.len i hi12 p hpl hget (by unfold hasN; rw [decide_eq_false hne]; rfl) ((rs.getD i rf0).at a.key) rfl
      have ho1 := HV.out.step t1 hgr
      have hX1 := rangeAt_turn HX.out t1 HXM.out.2
      obtain ⟨gp', cap', cur, hsl, hbg, hheap, hncap, _, hcs, htk⟩ := HNV.out.2.resolve_left (fun h => by omega)
      have hq := HNM.out gp' (by rw [hsl]; rfl)
      injection hsl with q1 q2 q3
      subst q1 q3
      have hrb : RB w1 gp' l (cur.toList.drop (l.length * 34)) := ⟨by rw [t1.block gp' hq.1 hq.2.1, hheap, ← htk, HN.out, List.take_append_drop], HV.out.row.ok⟩
      have hrb2 := hrb.setKey p hpl a.key HAOK.out.klen HAOK.out.kok
      rw [hget] at hrb2
      have hthere : w1.there gp' (p * 34 + 1) (keyV a.key).toArray.size := fun j hj => by
        have h0 := hrb.there p hpl (1 + j) (by have := keyV_len HAOK.out.klen; simp at hj; omega)
        rwa [← Nat.add_assoc] at h0
      have HTH := Lib.hid hthere
      have tS := turn_setCells gp' (keyV a.key) (p * 34 + 1) w1
      have hm1 : ∀ k, Mn F1 J T k → k ≠ gp' := fun k hk e => by
        rcases hgr k hk with h | h
        · exact hq.2.1 (e ▸ h)
        · have := hq.1; omega
      have haft2 := haft.turn' tS hm1 (fun e => by have := HTW.out.1; have := hq.2.2.1; omega) (fun k hk e => by have := hq.2.2.1; omega)
      have HAFT := Lib.hid haft2
      have HBM := Lib.hid hbm
      have HXK := Lib.hid (act_key hX1)
      have HX1 := Lib.hid (rangeAt_turn hX1 tS (fun e => hq.2.2.2.1 e.symm))
      have HO1 := Lib.hid (show Own (w1.setCells gp' (p * 34 + 1) (keyV a.key)) F1 J T (.slice (some ⟨g1, o1, none⟩) n lc) l from ⟨ho1.row.turn tS (fun q hq1 => hq.2.2.2.2 q hq1), fun q h1 h2 => ⟨Nat.lt_of_lt_of_le (ho1.off q h1 h2).1 tS.size, (ho1.off q h1 h2).2⟩⟩)
      have HO2 := Lib.hid (show Own (w1.setCells gp' (p * 34 + 1) (keyV a.key)) F1 J T (.slice (some ⟨gp', 0, none⟩) n nc) (l.set p ((rs.getD i rf0).at a.key)) from by
        refine ⟨?_, fun q h1 h2 => ?_⟩
        · have := RB.rowV (rest := []) (by rw [List.append_nil]; exact hrb2) (c := nc) (by simp [HN.out]; omega)
          rwa [List.length_set, HN.out] at this
        · cases h1
          exact ⟨hrb2.lt, fun hm => hm1 gp' hm rfl⟩)
      clear hmv HAT c0 hr1 cf hne hfa hpn hmem hpok ly haft t1 hgr hbm ho1 hX1 hrb hrb2 hthere tS hm1 haft2 hq hheap hcs htk hbg hg1l
      go_wp2_with (with_reducible (show wpList _ _ _ (Oper.mk (some 143) (.load 30 (.tmp 142)) _ _ _ _ :: _) _ _); refine still ?_)
      refine wpList_load_mid rfl 30 (.tmp 142) rfl X 3 (by first | rfl | simp) (keyV a.key) _ HXK.out Tryd.underlying30 rfl (by rw [keyV_len HAOK.out.klen]; kernel_rfl) ?_
      go_wp2_with (with_reducible (show wpList _ _ _ (Oper.mk none (.store 35 (.tmp 145) (.tmp 143)) _ _ _ _ :: _) _ _); refine still ?_)
      refine wpList_store_mid rfl 35 (.tmp 145) (.tmp 143) rfl gp' (p * 34 + 1) (keyV a.key).toArray (by first | rfl | simp) rfl HTH.out (by simp [keyV_len HAOK.out.klen, info35]) (all_oneCell_toArray (keyV_one a.key)) ?_
      rw [show (keyV a.key).toArray.toList = keyV a.key from rfl]
      generalize w1.setCells gp' (p * 34 + 1) (keyV a.key) = w2 at *
      clear HTH
      go_wp2_with fail
      exact HA.out _ _ _ _ _ _ _ _ _ _ _ _ _ _ _ _ _ _ _ _ _ _ _ _ _ _ _ _ _ _ _ _ _ _ _ _ _ _ _ _ _ _ _ _ _ _ _ _ _ _ _ _ _ _ _ _ _ _ _ _ _ _ _ _ _ _ _ _ _ _ _ _ _ _ _ _ _ _ _ _ _ _ _ _ _ _ _ _ _ _ _ _ _ _ _ _ _ _ _ _ _ _ _ _ _ _ _ _ _ _ _ _ _ _ _ _ _ _ _ _ _ _ _ _ _ _ _ _ _ _ _ _ _ _ _ _ _ _ _ _ _ _ _ _ _ _ _ _ _ _ _ _ _ _ _ _ _ _ _ _ _ _ _ _ _ _ _ _ _ _ _ _ _ _ _ _ _ _ _ _ _ _ _ _ _ _ _ _ _ _ _ _ _ _ _ _ _ _ _ _ _ _ _ _ _ _ _ _ _ _ _ _ _ _ _ _ _ _ _ _ _ _ _ _ _ _ _ _ _ _ _ _ _ _ _ _ _ _ _ _ _ _ _ _ _ _ _ _ _ _ _ _ _ _ _ _ _ _ _ _ HX1.out (HAFT.out.sw HNOW.out.bes HBM.out HO1.out HO2.out)
end Go.Proofs.YtnenkclihgeacaaDoor
/- Own contracts: where a ref goes in. No statement is proved here. -/
namespace Go.Proofs.YtnenkclihgeacaaDoor
set_option maxRecDepth 100000
open Go.RowKit
set_option linter.unusedVariables false
set_option linter.unusedSimpArgs false

theorem build37s (r : Rf) (hr : r.Ok) (w : World) : (Instr.buildSlice 29 1 #[(0, .agg r.vals.toArray)]).run Tryd.prog w = .ok (.slice (some ⟨w.heap.size, 0, none⟩) 1 1) (w.alloc (.cells r.vals.toArray 37)) := by
  obtain ⟨i0, hi, hz0, hz1, hz2⟩ := info_parts info37p
  refine run_buildSlice (P := Tryd.prog) w 29 37 1 _ _ i0 _ Tryd.underlying29 hi hz0 (by rw [hz1]; decide) (by rw [hz1]; decide) ?_
  rw [hz1]
  exact fill_one 34 _ _ (by simp [hr.vlen]) (by simp)
theorem exec_build37s (ev : Operand → Value) (op : Oper) (y : Operand) (ho : op.op = .buildSlice 29 1 #[(0, y)]) (r : Rf) (hr : r.Ok) (hy : ev y = .agg r.vals.toArray) (w : World) : (execOp ev op).run Tryd.prog w = .ok (.value (.slice (some ⟨w.heap.size, 0, none⟩) 1 1)) (w.alloc (.cells r.vals.toArray 37)) := by
  unfold execOp
  simp only [ho, List.map_toArray, List.map_cons, List.map_nil, hy, Sem.run_bind, Sem.run_pure, build37s r hr, Result.andThen_ok]
theorem one_rowV {w : World} (r : Rf) (hr : r.Ok) : RowV (w.alloc (.cells r.vals.toArray 37)) (.slice (some ⟨w.heap.size, 0, none⟩) 1 1) [r] := by
  have hb := box_alloc w 37 r.vals
  refine ⟨fun x hx => by rw [List.mem_singleton.1 hx]; exact hr, .inr ⟨w.heap.size, 0, 1, rfl, Nat.le_refl _, fun _ => by rw [hb.size]; omega, fun k hk => ?_⟩⟩
  obtain rfl : k = 0 := by simpa using hk
  simpa using hb.range
/-- A row, one more, and another row: put together, whichever is made first. -/
theorem put_three (w : World) (va vd : Value) (l1 l2 : List Rf) (r : Rf) (hr : r.Ok) (h1 : RowV w va l1) (h2 : RowV w vd l2) (hl : l1.length + 1 + l2.length ≤ 1000) :
    (∃ v2 w2 v4 w4 v5 w5, (Builtin.append_ #[29, 29] 29 #[.slice none 0 0, va]).run Tryd.prog w = .ok v2 w2 ∧ (Builtin.append_ #[29, 29] 29 #[v2, .slice (some ⟨w2.heap.size, 0, none⟩) 1 1]).run Tryd.prog (w2.alloc (.cells r.vals.toArray 37)) = .ok v4 w4 ∧ (Builtin.append_ #[29, 29] 29 #[v4, vd]).run Tryd.prog w4 = .ok v5 w5 ∧ w5.ownsRow w.heap.size 37 34 v5 (l1 ++ r :: l2).length (rfsV (l1 ++ r :: l2)) ∧ Turn (fun _ => False) w w2 ∧ Turn (fun _ => False) w (w2.alloc (.cells r.vals.toArray 37)) ∧ Turn (fun _ => False) w w4 ∧ Turn (fun _ => False) w w5) ∧
    (∃ v2 w2 v4 w4 v5 w5, (Builtin.append_ #[29, 29] 29 #[.slice none 0 0, va]).run Tryd.prog (w.alloc (.cells r.vals.toArray 37)) = .ok v2 w2 ∧ (Builtin.append_ #[29, 29] 29 #[v2, .slice (some ⟨w.heap.size, 0, none⟩) 1 1]).run Tryd.prog w2 = .ok v4 w4 ∧ (Builtin.append_ #[29, 29] 29 #[v4, vd]).run Tryd.prog w4 = .ok v5 w5 ∧ w5.ownsRow (w.alloc (.cells r.vals.toArray 37)).heap.size 37 34 v5 (l1 ++ r :: l2).length (rfsV (l1 ++ r :: l2)) ∧ Turn (fun _ => False) w (w.alloc (.cells r.vals.toArray 37)) ∧ Turn (fun _ => False) w w2 ∧ Turn (fun _ => False) w w4 ∧ Turn (fun _ => False) w w5) := by
  have e : l1 ++ r :: l2 = (l1 ++ [r]) ++ l2 := by simp
  rw [e]
  refine ⟨?_, ?_⟩
  · obtain ⟨v2, w2, hr2, ho2, t2⟩ := app_nil w va l1 h1 (by omega)
    have tb := (box_alloc w2 37 r.vals).turn
    have hone := one_rowV (w := w2) r hr
    generalize hw3 : w2.alloc (.cells r.vals.toArray 37) = w3 at *
    have ho3 := own_rows_turn ho2 tb (fun _ _ => id)
    obtain ⟨v4, w4, hr4, ho4, t4⟩ := app_refs w3 w.heap.size v2 _ l1 [r] ho3 hone (Nat.le_trans t2.size tb.size) (by simp; omega)
    have t04 := turn_on (w0 := w) ho3 (Nat.le_refl _) (t2.trans tb (fun _ _ => id)) t4
    obtain ⟨v5, w5, hr5, ho5, t5⟩ := app_refs w4 w.heap.size v4 vd (l1 ++ [r]) l2 ho4 (h2.turn t04 (fun _ _ => id)) t04.size (by simp; omega)
    exact ⟨v2, w2, v4, w4, v5, w5, hr2, hw3 ▸ hr4, hr5, ho5, t2, hw3 ▸ t2.trans tb (fun _ _ => id), t04, turn_on ho4 (Nat.le_refl _) t04 t5⟩
  · have tb := (box_alloc w 37 r.vals).turn
    have hone := one_rowV (w := w) r hr
    generalize hw3 : w.alloc (.cells r.vals.toArray 37) = w3 at *
    obtain ⟨v2, w2, hr2, ho2, t2⟩ := app_nil w3 va l1 (h1.turn tb (fun _ _ => id)) (by omega)
    have t02 := tb.trans t2 (fun _ _ => id)
    obtain ⟨v4, w4, hr4, ho4, t4⟩ := app_refs w2 w3.heap.size v2 _ l1 [r] ho2 (hone.turn t2 (fun _ _ => id)) t2.size (by simp; omega)
    have t34 := turn_on (w0 := w3) ho2 (Nat.le_refl _) t2 t4
    have t04 := tb.trans t34 (fun _ _ => id)
    obtain ⟨v5, w5, hr5, ho5, t5⟩ := app_refs w4 w3.heap.size v4 vd (l1 ++ [r]) l2 ho4 (h2.turn t04 (fun _ _ => id)) t34.size (by simp; omega)
    exact ⟨v2, w2, v4, w4, v5, w5, hr2, hr4, hr5, ho5, tb, t02, t04, tb.trans (turn_on ho4 (Nat.le_refl _) t34 t5) (fun _ _ => id)⟩
theorem less_ref (x r : Rf) : Op.bytesLess x.name.toList r.name.toList = decide (cmpR x r < 0) := by
  rw [less_cmp, ByteArray.toList_eq, ByteArray.toList_eq]; rfl
/-- Where a name goes in. -/
theorem place_of {l : List Rf} (hrise : l.Pairwise (fun x y => cmpR x y < 0)) (r : Rf) (hno : ∀ x ∈ l, x.name ≠ r.name) (k : Nat) (hk : k ≤ l.length) (h : k = l.length ∨ ¬ cmpR (l.getD k rf0) r < 0) : ∀ x ∈ l.drop k, cmpR r x < 0 := by
  intro x hx
  rcases h with rfl | h
  · simp at hx
  · by_cases hkl : k < l.length
    · have hg : l.getD k rf0 = l[k] := by simp [List.getD, hkl]
      rw [hg] at h
      have hm : l[k] ∈ l := List.getElem_mem _
      have h0 : cmpR l[k] r ≠ 0 := fun e => hno _ hm (by
        have := cb_eq _ _ e
        exact toList_inj (by rw [ByteArray.toList_eq, ByteArray.toList_eq, this]))
      have h1 : cmpR r l[k] < 0 := by have := cmpR_flip l[k] r; omega
      rw [List.drop_eq_getElem_cons hkl] at hx
      rcases List.mem_cons.1 hx with rfl | hx
      · exact h1
      · refine cmpR_trans h1 ?_
        rw [← List.take_append_drop k l, List.drop_eq_getElem_cons hkl, List.pairwise_append, List.pairwise_cons] at hrise
        exact hrise.2.1.1 x hx
    · rw [List.drop_of_length_le (by omega)] at hx; simp at hx
set_option maxHeartbeats 16000000 in
theorem mk_find (u0 u1 u2 u3 u4 u5 u7 u8 u10 u11 u12 u13 u14 u15 u16 u17 u18 u19 u21 u22 u23 u24 u25 u26 u27 u28 u29 u30 u31 u32 u33 u34 u35 u36 u37 u38 u39 u40 u41 u42 u43 u44 u45 u46 u47 u48 u49 u50 u51 u52 u53 u54 u55 u56 u57 u58 u59 u60 u61 u62 u63 u64 u65 u66 u67 u68 u69 u70 u71 u72 u73 u74 u75 u76 u77 u78 u79 u80 u81 u82 u83 u84 u85 u86 u87 u88 u89 u90 u91 u92 u93 u94 u95 u96 u97 u98 u99 u100 u101 u102 u103 u104 u105 u106 u107 u108 u109 u110 u111 u112 u113 u114 u115 u116 u117 u118 u119 u120 u121 u122 u123 u124 u125 u126 u127 u128 u129 u130 u131 u132 u133 u134 u135 u136 u137 u138 u139 u140 u141 u142 u143 u144 u145 u146 u147 u148 u149 u150 u151 u152 u153 u154 u155 u156 u157 u158 u159 u160 u161 u162 u163 u164 u165 u166 u167 u168 u169 u170 u171 u172 u173 u174 u175 u176 u177 u178 u179 u180 u181 u182 u183 u184 u185 u186 u187 u188 u189 u190 u191 u192 u193 u194 u195 u196 u197 u198 u199 u200 u201 u202 u203 u204 u205 u206 u207 u208 u209 u210 u211 u212 u213 u214 u215 u216 u217 u218 u219 u220 u221 u222 u223 u224 u225 u226 u227 u228 u229 u230 u231 u232 u233 u234 u235 u236 u237 u238 u239 u240 u241 u242 u243 u244 u245 u246 u247 u248 u249 u250 u251 u252 u253 u254 u255 u256 u257 u258 u259 u260 u261 u262 u263 u264 u265 : Value) (w : World) (la : Option Addr) (n lc : Nat) (l : List Rf) (s : ByteArray) (r : Rf) (hs : s = r.name) (hn : l.length = n) (hl12 : n ≤ 12) (hv : RowV w (.slice la n lc) l) (hrise : l.Pairwise (fun x y => cmpR x y < 0)) (hno : ∀ x ∈ l, x.name ≠ r.name) (Q0 : Exit → Act → World → Prop)
    (hexit : ∀ (v88 v89 v90 v91 v92 v93 v94 v95 v96 v97 v98 v99 v100 v101 v102 : Value) (k : Nat) (w' : World), k ≤ n → (∀ x ∈ l.take k, cmpR x r < 0) → (∀ x ∈ l.drop k, cmpR r x < 0) → Turn (fun _ => False) w w' → Q0 (.exit 6) { tmps := List.toArray (u0 :: u1 :: u2 :: u3 :: u4 :: u5 :: .slice la n lc :: u7 :: u8 :: .string s :: u10 :: u11 :: u12 :: u13 :: u14 :: u15 :: u16 :: u17 :: u18 :: u19 :: .int .i64 (k : Int) :: u21 :: u22 :: u23 :: u24 :: u25 :: u26 :: u27 :: u28 :: u29 :: u30 :: u31 :: u32 :: u33 :: u34 :: u35 :: u36 :: u37 :: u38 :: u39 :: u40 :: u41 :: u42 :: u43 :: u44 :: u45 :: u46 :: u47 :: u48 :: u49 :: u50 :: u51 :: u52 :: u53 :: u54 :: u55 :: u56 :: u57 :: u58 :: u59 :: u60 :: u61 :: u62 :: u63 :: u64 :: u65 :: u66 :: u67 :: u68 :: u69 :: u70 :: u71 :: u72 :: u73 :: u74 :: u75 :: u76 :: u77 :: u78 :: u79 :: u80 :: u81 :: u82 :: u83 :: u84 :: u85 :: u86 :: u87 :: v88 :: v89 :: v90 :: v91 :: v92 :: v93 :: v94 :: v95 :: v96 :: v97 :: v98 :: v99 :: v100 :: v101 :: v102 :: u103 :: u104 :: u105 :: u106 :: u107 :: u108 :: u109 :: u110 :: u111 :: u112 :: u113 :: u114 :: u115 :: u116 :: u117 :: u118 :: u119 :: u120 :: u121 :: u122 :: u123 :: u124 :: u125 :: u126 :: u127 :: u128 :: u129 :: u130 :: u131 :: u132 :: u133 :: u134 :: u135 :: u136 :: u137 :: u138 :: u139 :: u140 :: u141 :: u142 :: u143 :: u144 :: u145 :: u146 :: u147 :: u148 :: u149 :: u150 :: u151 :: u152 :: u153 :: u154 :: u155 :: u156 :: u157 :: u158 :: u159 :: u160 :: u161 :: u162 :: u163 :: u164 :: u165 :: u166 :: u167 :: u168 :: u169 :: u170 :: u171 :: u172 :: u173 :: u174 :: u175 :: u176 :: u177 :: u178 :: u179 :: u180 :: u181 :: u182 :: u183 :: u184 :: u185 :: u186 :: u187 :: u188 :: u189 :: u190 :: u191 :: u192 :: u193 :: u194 :: u195 :: u196 :: u197 :: u198 :: u199 :: u200 :: u201 :: u202 :: u203 :: u204 :: u205 :: u206 :: u207 :: u208 :: u209 :: u210 :: u211 :: u212 :: u213 :: u214 :: u215 :: u216 :: u217 :: u218 :: u219 :: u220 :: u221 :: u222 :: u223 :: u224 :: u225 :: u226 :: u227 :: u228 :: u229 :: u230 :: u231 :: u232 :: u233 :: u234 :: u235 :: u236 :: u237 :: u238 :: u239 :: u240 :: u241 :: u242 :: u243 :: u244 :: u245 :: u246 :: u247 :: u248 :: u249 :: u250 :: u251 :: u252 :: u253 :: u254 :: u255 :: u256 :: u257 :: u258 :: u259 :: u260 :: u261 :: u262 :: u263 :: u264 :: u265 :: []), defers := [] } w') :
    Code.wp Tryd.prog (plC [1, 1, 1, 1, 1, 0, 1, 0, 0, 1, 0, 0, 1, 1, 1, 1, 1, 1, 1, 1, 0, 1, 0, 1, 1, 1, 1, 1, 1, 1, 1, 1, 1, 0, 1, 1, 1, 1, 1, 1, 1, 0, 0]) Q0 { tmps := List.toArray (u0 :: u1 :: u2 :: u3 :: u4 :: u5 :: .slice la n lc :: u7 :: u8 :: .string s :: u10 :: u11 :: u12 :: u13 :: u14 :: u15 :: u16 :: u17 :: u18 :: u19 :: .int .i64 0 :: u21 :: u22 :: u23 :: u24 :: u25 :: u26 :: u27 :: u28 :: u29 :: u30 :: u31 :: u32 :: u33 :: u34 :: u35 :: u36 :: u37 :: u38 :: u39 :: u40 :: u41 :: u42 :: u43 :: u44 :: u45 :: u46 :: u47 :: u48 :: u49 :: u50 :: u51 :: u52 :: u53 :: u54 :: u55 :: u56 :: u57 :: u58 :: u59 :: u60 :: u61 :: u62 :: u63 :: u64 :: u65 :: u66 :: u67 :: u68 :: u69 :: u70 :: u71 :: u72 :: u73 :: u74 :: u75 :: u76 :: u77 :: u78 :: u79 :: u80 :: u81 :: u82 :: u83 :: u84 :: u85 :: u86 :: u87 :: u88 :: u89 :: u90 :: u91 :: u92 :: u93 :: u94 :: u95 :: u96 :: u97 :: u98 :: u99 :: u100 :: u101 :: u102 :: u103 :: u104 :: u105 :: u106 :: u107 :: u108 :: u109 :: u110 :: u111 :: u112 :: u113 :: u114 :: u115 :: u116 :: u117 :: u118 :: u119 :: u120 :: u121 :: u122 :: u123 :: u124 :: u125 :: u126 :: u127 :: u128 :: u129 :: u130 :: u131 :: u132 :: u133 :: u134 :: u135 :: u136 :: u137 :: u138 :: u139 :: u140 :: u141 :: u142 :: u143 :: u144 :: u145 :: u146 :: u147 :: u148 :: u149 :: u150 :: u151 :: u152 :: u153 :: u154 :: u155 :: u156 :: u157 :: u158 :: u159 :: u160 :: u161 :: u162 :: u163 :: u164 :: u165 :: u166 :: u167 :: u168 :: u169 :: u170 :: u171 :: u172 :: u173 :: u174 :: u175 :: u176 :: u177 :: u178 :: u179 :: u180 :: u181 :: u182 :: u183 :: u184 :: u185 :: u186 :: u187 :: u188 :: u189 :: u190 :: u191 :: u192 :: u193 :: u194 :: u195 :: u196 :: u197 :: u198 :: u199 :: u200 :: u201 :: u202 :: u203 :: u204 :: u205 :: u206 :: u207 :: u208 :: u209 :: u210 :: u211 :: u212 :: u213 :: u214 :: u215 :: u216 :: u217 :: u218 :: u219 :: u220 :: u221 :: u222 :: u223 :: u224 :: u225 :: u226 :: u227 :: u228 :: u229 :: u230 :: u231 :: u232 :: u233 :: u234 :: u235 :: u236 :: u237 :: u238 :: u239 :: u240 :: u241 :: u242 :: u243 :: u244 :: u245 :: u246 :: u247 :: u248 :: u249 :: u250 :: u251 :: u252 :: u253 :: u254 :: u255 :: u256 :: u257 :: u258 :: u259 :: u260 :: u261 :: u262 :: u263 :: u264 :: u265 :: []), defers := [] } w := by
  subst hs
  have HE := Lib.hid hexit
  have HV := Lib.hid hv
  have HN := Lib.hid hn
  have HRI := Lib.hid hrise
  have HNO := Lib.hid hno
  clear hexit hv hn hrise hno
  conv => arg 2; whnf
  go_loopw [20] (fun iv wr => ∃ k : Nat, k ≤ n ∧ iv = .int .i64 (k : Int) ∧ (∀ x ∈ l.take k, cmpR x r < 0) ∧ Turn (fun _ => False) w wr) (fun iv _ => n - (intOf iv).toNat)
  case atStart => exact ⟨0, by omega, rfl, fun x hx => by simp at hx, Turn.refl _ _⟩
  case round =>
    obtain ⟨k, hk, rfl, hlo, htr⟩ := hrel
    have HLO := Lib.hid hlo
    have HTr := Lib.hid htr
    clear hlo htr
    by_cases hlt : k < n
    · have hkl : k < l.length := by rw [HN.out]; exact hlt
      obtain ⟨g1, o1, e1, hc1, hs1⟩ : ∃ g o, la = some ⟨g, o, none⟩ ∧ n ≤ lc ∧ wr.rangeAt g (o + k * 34) (l.getD k rf0).vals := by
        rcases (HV.out.turn HTr.out (fun _ _ => id)).at_ with ⟨c, h, h0⟩ | ⟨g, o, c, h, h3, _, h4⟩
        · rw [h0] at hkl; simp at hkl
        · injection h with q1 q2 q3
          exact ⟨g, o, q1, by rw [q3, ← HN.out]; exact h3, h4 k hkl⟩
      subst e1
      have hd1 : decide ((k : Int) < (n : Int)) = true := decide_eq_true (by omega)
      have gk : (0 : Int) ≤ (k : Int) ∧ (k : Int) < (n : Int) := by omega
      have hwk : IntKind.i64.wrap ((k : Int) + 1) = (k : Int) + 1 := by rw [IntKind.wrap_i64]; omega
      have hlr := less_ref (l.getD k rf0) r
      have htk : ∀ x ∈ l.take (k + 1), x ∈ l.take k ∨ x = l.getD k rf0 := fun x hx => by
        rw [List.take_succ_eq_append_getElem hkl, List.mem_append, List.mem_singleton] at hx
        rwa [show l.getD k rf0 = l[k] by simp [List.getD, hkl]]
      have HTK := Lib.hid htk
      have c1 : wr.cell? ⟨g1, o1 + k * 34, none⟩ = some (.string (l.getD k rf0).name) := by have := hs1 0 _ (Rf.v0 _); simpa using this
      have HPL := Lib.hid (fun h => place_of HRI.out r HNO.out k (Nat.le_of_lt hkl) (.inr h))
      clear hs1 htk
      generalize hye : l.getD k rf0 = y at *
      have HYE := Lib.hid hye
      clear hye
      by_cases hc : cmpR y r < 0
      · rw [decide_eq_true hc] at hlr
        have HC := Lib.hid hc
        clear hc
        go_wp2_with fail
        go_roundw
        case rel => exact ⟨k + 1, by omega, by go_num, fun x hx => (HTK.out x hx).elim (HLO.out x) (fun e => e ▸ HC.out), HTr.out⟩
        case measure => simp [intOf]; omega
      · rw [decide_eq_false hc] at hlr
        have HC := Lib.hid hc
        clear hc
        go_wp2_with fail
        exact HE.out _ _ _ _ _ _ _ _ _ _ _ _ _ _ _ k _ hk HLO.out (HPL.out HC.out) HTr.out
    · obtain rfl : k = n := by omega
      have hd1 : decide ((k : Int) < (k : Int)) = false := decide_eq_false (by omega)
      go_wp2_with fail
      exact HE.out _ _ _ _ _ _ _ _ _ _ _ _ _ _ _ k _ hk HLO.out (place_of HRI.out r HNO.out k (by rw [HN.out]; exact Nat.le_refl _) (.inl HN.out.symm)) HTr.out
end Go.Proofs.YtnenkclihgeacaaDoor
/- Own contracts: an act that moves a ref (4). No statement is proved here. -/
namespace Go.Proofs.YtnenkclihgeacaaDoor
set_option maxRecDepth 100000
open Go.RowKit
set_option linter.unusedVariables false
set_option linter.unusedSimpArgs false

set_option maxHeartbeats 16000000 in
theorem sw_move4 (u1 u5 u11 u15 u16 u17 u18 u19 u20 u21 u22 u23 u24 u25 u26 u27 u28 u29 u30 u31 u32 u33 u34 u35 u36 u37 u38 u39 u40 u41 u42 u43 u44 u45 u46 u47 u48 u49 u50 u51 u52 u53 u54 u55 u56 u57 u58 u59 u60 u61 u62 u63 u64 u65 u66 u67 u68 u69 u70 u71 u72 u73 u74 u75 u76 u77 u78 u79 u80 u81 u82 u83 u84 u85 u86 u87 u88 u89 u90 u91 u92 u93 u94 u95 u96 u97 u98 u99 u100 u101 u102 u103 u104 u105 u106 u107 u108 u109 u110 u111 u112 u113 u114 u115 u116 u117 u118 u119 u120 u121 u122 u123 u124 u125 u126 u127 u128 u129 u130 u131 u132 u133 u134 u135 u136 u137 u138 u139 u140 u141 u142 u143 u144 u145 u146 u147 u148 u149 u150 u151 u152 u153 u154 u155 u156 u157 u158 u159 u160 u161 u162 u163 u164 u165 u166 u167 u168 u169 u170 u171 u172 u173 u174 u175 u176 u177 u178 u179 u180 u181 u182 u183 u184 u185 u186 u187 u188 u189 u190 u191 u192 u193 u194 u195 u196 u197 u198 u199 u200 u201 u202 u203 u204 u205 u206 u207 u208 u209 u210 u211 u212 u213 u214 u215 u216 u217 u218 u219 u220 u221 u222 u223 u224 u225 u226 u227 u228 u229 u230 u231 u232 u233 u234 u235 u236 u237 u238 u239 u240 u241 u242 u243 u244 u245 u246 u247 u248 u249 u250 u251 u252 u253 u254 u255 u256 u257 u258 u259 u260 u261 u262 u263 u264 u265 av : Value) (W w : World) (B : Nat) (F : Nat → Prop) (T J D : Nat) (d : DiskM) (L : Nat) (C : List (List Int)) (nn : Nat) (rs l : List Rf) (la na : Option Addr) (n lc nc i X : Nat) (s : ByteArray) (at_ : Int) (a : ActM)
    (h : Now W w B F T J D d L C (nn + 400) rs l) (hn : l.length = n) (hv : Own w F J T (.slice la n lc) l) (Pb : Nat) (hnv : w.ownsRow Pb 37 34 (.slice na n nc) n (rfsV l)) (hnm : ∀ q, (Value.slice na n nc).ownBlock = some q → q < w.heap.size ∧ ¬ Mn F J T q ∧ W.heap.size ≤ q ∧ q ≠ X ∧ (∀ p, (Value.slice la n lc).ownBlock = some p → p ≠ q)) (hX : w.rangeAt X 0 a.vals) (hXm : X < w.heap.size ∧ ¬ Mn F J T X) (hs : s = a.nm) (haok : a.Ok) (hnsz : s.size ≤ 9223372036854775807) (tab : Tab W)
    (hat : (at_ = -1 ∧ ∀ x ∈ l, x.name ≠ s) ∨ ∃ p : Nat, p < n ∧ at_ = (p : Int) ∧ (l.getD p rf0).name = s) (A : Act → World → Prop)
    (hA : ∀ (v1 v5 v10 v11 v15 v16 v17 v18 v19 v20 v21 v22 v23 v24 v25 v26 v27 v28 v29 v30 v31 v32 v33 v34 v35 v36 v37 v38 v39 v40 v41 v42 v43 v44 v45 v46 v47 v48 v49 v50 v51 v52 v53 v54 v55 v56 v57 v58 v59 v60 v61 v62 v63 v64 v65 v66 v67 v68 v69 v70 v71 v72 v73 v74 v75 v76 v77 v78 v79 v80 v81 v82 v83 v84 v85 v86 v87 v88 v89 v90 v91 v92 v93 v94 v95 v96 v97 v98 v99 v100 v101 v102 v103 v104 v105 v106 v107 v108 v109 v110 v111 v112 v113 v114 v115 v116 v117 v118 v119 v120 v121 v122 v123 v124 v125 v126 v127 v128 v129 v130 v131 v132 v133 v134 v135 v136 v137 v138 v139 v140 v141 v142 v143 v144 v145 v146 v147 v148 v149 v150 v151 v152 v153 v154 v155 v156 v157 v158 v159 v160 v161 v162 v163 v164 v165 v166 v167 v168 v169 v170 v171 v172 v173 v174 v175 v176 v177 v178 v179 v180 v181 v182 v183 v184 v185 v186 v187 v188 v189 v190 v191 v192 v193 v194 v195 v196 v197 v198 v199 v200 v201 v202 v203 v204 v205 v206 v207 v208 v209 v210 v211 v212 v213 v214 v215 v216 v217 v218 v219 v220 v221 v222 v223 v224 v225 v226 v227 v228 v229 v230 v231 v232 v233 v234 v235 v236 v237 v238 v239 v240 v241 v242 v243 v244 v245 v246 v247 v248 v249 v250 v251 v252 v253 v254 v255 v256 v257 v258 v259 v260 v261 v262 v263 v264 v265 : Value) (T1 : Nat) (nv1 : Value) (wt ea : Int) (w' : World), w'.rangeAt X 0 a.vals → Sw W w' B D nn l (.slice la n lc) T1 nv1 wt ea → A { tmps := List.toArray (av :: v1 :: .bool false :: .pointer (some ⟨D, 0, none⟩) :: .pointer (some ⟨T1, 0, none⟩) :: v5 :: .slice la n lc :: .int .i64 (i : Int) :: .pointer (some ⟨X, 0, none⟩) :: .string s :: v10 :: v11 :: nv1 :: .int .i64 wt :: .int .i64 ea :: v15 :: v16 :: v17 :: v18 :: v19 :: v20 :: v21 :: v22 :: v23 :: v24 :: v25 :: v26 :: v27 :: v28 :: v29 :: v30 :: v31 :: v32 :: v33 :: v34 :: v35 :: v36 :: v37 :: v38 :: v39 :: v40 :: v41 :: v42 :: v43 :: v44 :: v45 :: v46 :: v47 :: v48 :: v49 :: v50 :: v51 :: v52 :: v53 :: v54 :: v55 :: v56 :: v57 :: v58 :: v59 :: v60 :: v61 :: v62 :: v63 :: v64 :: v65 :: v66 :: v67 :: v68 :: v69 :: v70 :: v71 :: v72 :: v73 :: v74 :: v75 :: v76 :: v77 :: v78 :: v79 :: v80 :: v81 :: v82 :: v83 :: v84 :: v85 :: v86 :: v87 :: v88 :: v89 :: v90 :: v91 :: v92 :: v93 :: v94 :: v95 :: v96 :: v97 :: v98 :: v99 :: v100 :: v101 :: v102 :: v103 :: v104 :: v105 :: v106 :: v107 :: v108 :: v109 :: v110 :: v111 :: v112 :: v113 :: v114 :: v115 :: v116 :: v117 :: v118 :: v119 :: v120 :: v121 :: v122 :: v123 :: v124 :: v125 :: v126 :: v127 :: v128 :: v129 :: v130 :: v131 :: v132 :: v133 :: v134 :: v135 :: v136 :: v137 :: v138 :: v139 :: v140 :: v141 :: v142 :: v143 :: v144 :: v145 :: v146 :: v147 :: v148 :: v149 :: v150 :: v151 :: v152 :: v153 :: v154 :: v155 :: v156 :: v157 :: v158 :: v159 :: v160 :: v161 :: v162 :: v163 :: v164 :: v165 :: v166 :: v167 :: v168 :: v169 :: v170 :: v171 :: v172 :: v173 :: v174 :: v175 :: v176 :: v177 :: v178 :: v179 :: v180 :: v181 :: v182 :: v183 :: v184 :: v185 :: v186 :: v187 :: v188 :: v189 :: v190 :: v191 :: v192 :: v193 :: v194 :: v195 :: v196 :: v197 :: v198 :: v199 :: v200 :: v201 :: v202 :: v203 :: v204 :: v205 :: v206 :: v207 :: v208 :: v209 :: v210 :: v211 :: v212 :: v213 :: v214 :: v215 :: v216 :: v217 :: v218 :: v219 :: v220 :: v221 :: v222 :: v223 :: v224 :: v225 :: v226 :: v227 :: v228 :: v229 :: v230 :: v231 :: v232 :: v233 :: v234 :: v235 :: v236 :: v237 :: v238 :: v239 :: v240 :: v241 :: v242 :: v243 :: v244 :: v245 :: v246 :: v247 :: v248 :: v249 :: v250 :: v251 :: v252 :: v253 :: v254 :: v255 :: v256 :: v257 :: v258 :: v259 :: v260 :: v261 :: v262 :: v263 :: v264 :: v265 :: []), defers := [] } w') (hk : a.k % 8 = 4) :
    Code.wp Tryd.prog (plC [1, 1, 1, 1, 1, 0, 1, 0, 0, 1, 0, 0, 1, 1, 1, 1, 1, 1, 1, 1, 0]) (Exit.then A fun _ _ _ => False) { tmps := List.toArray (av :: u1 :: .bool false :: .pointer (some ⟨D, 0, none⟩) :: .pointer (some ⟨T, 0, none⟩) :: u5 :: .slice la n lc :: .int .i64 (i : Int) :: .pointer (some ⟨X, 0, none⟩) :: .string s :: .int .i64 at_ :: u11 :: .slice na n nc :: .int .i64 0 :: .int .i64 0 :: u15 :: u16 :: u17 :: u18 :: u19 :: u20 :: u21 :: u22 :: u23 :: u24 :: u25 :: u26 :: u27 :: u28 :: u29 :: u30 :: u31 :: u32 :: u33 :: u34 :: u35 :: u36 :: u37 :: u38 :: u39 :: u40 :: u41 :: u42 :: u43 :: u44 :: u45 :: u46 :: u47 :: u48 :: u49 :: u50 :: u51 :: u52 :: u53 :: u54 :: u55 :: u56 :: u57 :: u58 :: u59 :: u60 :: u61 :: u62 :: u63 :: u64 :: u65 :: u66 :: u67 :: u68 :: u69 :: u70 :: u71 :: u72 :: u73 :: u74 :: u75 :: u76 :: u77 :: u78 :: u79 :: u80 :: u81 :: u82 :: u83 :: u84 :: u85 :: u86 :: u87 :: u88 :: u89 :: u90 :: u91 :: u92 :: u93 :: u94 :: u95 :: u96 :: u97 :: u98 :: u99 :: u100 :: u101 :: u102 :: u103 :: u104 :: u105 :: u106 :: u107 :: u108 :: u109 :: u110 :: u111 :: u112 :: u113 :: u114 :: u115 :: u116 :: u117 :: u118 :: u119 :: u120 :: u121 :: u122 :: u123 :: u124 :: u125 :: u126 :: u127 :: u128 :: u129 :: u130 :: u131 :: u132 :: u133 :: u134 :: u135 :: u136 :: u137 :: u138 :: u139 :: u140 :: u141 :: u142 :: u143 :: u144 :: u145 :: u146 :: u147 :: u148 :: u149 :: u150 :: u151 :: u152 :: u153 :: u154 :: u155 :: u156 :: u157 :: u158 :: u159 :: u160 :: u161 :: u162 :: u163 :: u164 :: u165 :: u166 :: u167 :: u168 :: u169 :: u170 :: u171 :: u172 :: u173 :: u174 :: u175 :: u176 :: u177 :: u178 :: u179 :: u180 :: u181 :: u182 :: u183 :: u184 :: u185 :: u186 :: u187 :: u188 :: u189 :: u190 :: u191 :: u192 :: u193 :: u194 :: u195 :: u196 :: u197 :: u198 :: u199 :: u200 :: u201 :: u202 :: u203 :: u204 :: u205 :: u206 :: u207 :: u208 :: u209 :: u210 :: u211 :: u212 :: u213 :: u214 :: u215 :: u216 :: u217 :: u218 :: u219 :: u220 :: u221 :: u222 :: u223 :: u224 :: u225 :: u226 :: u227 :: u228 :: u229 :: u230 :: u231 :: u232 :: u233 :: u234 :: u235 :: u236 :: u237 :: u238 :: u239 :: u240 :: u241 :: u242 :: u243 :: u244 :: u245 :: u246 :: u247 :: u248 :: u249 :: u250 :: u251 :: u252 :: u253 :: u254 :: u255 :: u256 :: u257 :: u258 :: u259 :: u260 :: u261 :: u262 :: u263 :: u264 :: u265 :: []), defers := [] } w := by
  have HA := Lib.hid hA
  have hl12 : n ≤ 12 := by rw [← hn, h.bes.perm.length_eq, ← h.good.len]; exact List.length_filter_le _ _
  have hcap := hv.row.cap hn
  have HNOW := Lib.hid h
  have HV := Lib.hid hv
  have HNV := Lib.hid hnv
  have HNM := Lib.hid hnm
  have HX := Lib.hid hX
  have HXM := Lib.hid hXm
  have HN := Lib.hid hn
  have HAT := Lib.hid hat
  have HAOK := Lib.hid haok
  have HTW := Lib.hid tab
  have c0 : w.cell? ⟨X, 0, none⟩ = some (.int .u8 (a.k : Int)) := by have := hX 0 _ (act_k a); simpa using this
  have k1 : ((a.k : Int)).tmod 8 = 4 := by rw [Int.tmod_eq_emod_of_nonneg (by omega)]; omega
  have k2 : (a.k : Int) % 8 = 4 := by omega
  have k3 : IntKind.u8.wrap 4 = 4 := by rw [IntKind.wrap_u8]; omega
  clear hA h hv hnv hnm hX hXm hs hn hat tab haok hnsz
  conv => arg 2; whnf
  go_wp2_with (with_reducible (show wpList _ _ _ (Oper.mk (some 131) (.load 30 (.tmp 130)) _ _ _ _ :: _) _ _); refine still ?_)
  refine wpList_load_mid rfl 30 (.tmp 130) rfl X 3 (by first | rfl | simp) (keyV a.key) _ (act_key HX.out) Tryd.underlying30 rfl (by rw [keyV_len HAOK.out.klen]; kernel_rfl) ?_
  go_wp2_with fail
  refine (move_any w B F T J D d L C (nn + 100) rs s a.key (HNOW.out.lb.less (by omega)) HNOW.out.good.size HAOK.out.klen HAOK.out.kok).mono ?_
  intro e w1 hmv
  rcases HAT.out with ⟨rfl, hno⟩ | ⟨p, hp, rfl, hpn⟩
  · obtain ⟨rfl, t1⟩ : e = .returned (.int .i64 2) ∧ Turn (fun _ => False) w w1 := by
      rcases hmv with ⟨_, h1, h2⟩ | ⟨hs, i, hi, _⟩ | ⟨hs, i, hi, _⟩
      · exact ⟨h1, h2⟩
      · exact absurd ((HNOW.out.bes.there HNOW.out.good s).1 i hs hi).2.1 (hno _ ((HNOW.out.bes.there HNOW.out.good s).1 i hs hi).2.2)
      · exact absurd ((HNOW.out.bes.there HNOW.out.good s).1 i hs hi).2.1 (hno _ ((HNOW.out.bes.there HNOW.out.good s).1 i hs hi).2.2)
    have HT1 := Lib.hid t1
    clear hmv t1 hno HAT c0
    go_wp2_with fail
    exact HA.out _ _ _ _ _ _ _ _ _ _ _ _ _ _ _ _ _ _ _ _ _ _ _ _ _ _ _ _ _ _ _ _ _ _ _ _ _ _ _ _ _ _ _ _ _ _ _ _ _ _ _ _ _ _ _ _ _ _ _ _ _ _ _ _ _ _ _ _ _ _ _ _ _ _ _ _ _ _ _ _ _ _ _ _ _ _ _ _ _ _ _ _ _ _ _ _ _ _ _ _ _ _ _ _ _ _ _ _ _ _ _ _ _ _ _ _ _ _ _ _ _ _ _ _ _ _ _ _ _ _ _ _ _ _ _ _ _ _ _ _ _ _ _ _ _ _ _ _ _ _ _ _ _ _ _ _ _ _ _ _ _ _ _ _ _ _ _ _ _ _ _ _ _ _ _ _ _ _ _ _ _ _ _ _ _ _ _ _ _ _ _ _ _ _ _ _ _ _ _ _ _ _ _ _ _ _ _ _ _ _ _ _ _ _ _ _ _ _ _ _ _ _ _ _ _ _ _ _ _ _ _ _ _ _ _ _ _ _ _ _ _ _ _ _ _ _ _ _ _ _ _ _ _ _ _ _ _ _ _ _ (rangeAt_turn HX.out HT1.out id) (.inl ⟨rfl, by decide, .inr ⟨by decide, F, J, d, L, C, rs, ((HNOW.out.turn0 HT1.out).less (by omega)), HV.out.turn0 HT1.out⟩⟩)
  · have hpl : p < l.length := by rw [HN.out]; exact hp
    have hmem : l.getD p rf0 ∈ l := getR_mem hpl
    have hpok := HV.out.row.ok _ hmem
    have gp : (0 : Int) ≤ (p : Int) ∧ (p : Int) < (n : Int) := by omega
    have dp : decide ((p : Int) < 0) = false := decide_eq_false (by omega)
    obtain ⟨i, hi12, hget, hne, hmv2⟩ : ∃ i, i < 12 ∧ l.getD p rf0 = rs.getD i rf0 ∧ (rs.getD i rf0).name ≠ ByteArray.empty ∧ (((rs.getD i rf0).fast = true ∧ e = .returned (.int .i64 13) ∧ Turn (fun _ => False) w w1) ∨ ((rs.getD i rf0).fast = false ∧ LyPost w B F T J D d L C (nn + 100) rs i ((rs.getD i rf0).at a.key) (sealB (refB ((rs.getD i rf0).at a.key))) e w1)) := by
      rcases hmv with ⟨h0, h1, h2⟩ | ⟨hs, i, hi, hi12, hfa, he, ht⟩ | ⟨hs, i, hi, hi12, hfa, hly⟩
      · exact absurd hpn (((HNOW.out.bes.there HNOW.out.good s).2 h0).2 _ hmem)
      · obtain ⟨_, e2, e3⟩ := (HNOW.out.bes.there HNOW.out.good s).1 i hs hi
        exact ⟨i, hi12, rise_inj HNOW.out.bes.rise hmem e3 (by rw [hpn, e2]), by rw [e2]; exact hs, .inl ⟨hfa, he, ht⟩⟩
      · obtain ⟨_, e2, e3⟩ := (HNOW.out.bes.there HNOW.out.good s).1 i hs hi
        exact ⟨i, hi12, rise_inj HNOW.out.bes.rise hmem e3 (by rw [hpn, e2]), by rw [e2]; exact hs, .inr ⟨hfa, hly⟩⟩
    obtain ⟨g1, o1, e1, hc1, hr1⟩ : ∃ g o, la = some ⟨g, o, none⟩ ∧ n ≤ lc ∧ w.rangeAt g (o + p * 34) (l.getD p rf0).vals := by
      rcases HV.out.row.at_ with ⟨c, h, h0⟩ | ⟨g, o, c, h, h3, _, h4⟩
      · rw [h0] at hpl; simp at hpl
      · injection h with q1 q2 q3
        exact ⟨g, o, q1, by rw [q3, ← HN.out]; exact h3, h4 p hpl⟩
    have hg1l := (HV.out.off g1 (by rw [e1]; rfl) (by omega))
    subst e1
    have cf : (l.getD p rf0).vals[33]? = some (.bool (l.getD p rf0).fast) := Rf.v33 _ hpok
    rw [hget] at cf
    rcases hmv2 with ⟨hfa, rfl, t1⟩ | ⟨hfa, ly⟩
    · rw [hfa] at cf
      have c33 : w1.cell? ⟨g1, o1 + p * 34 + 33, none⟩ = some (.bool true) := rangeAt_turn hr1 t1 id 33 _ (by rw [hget]; exact cf)
      have HT1 := Lib.hid t1
      clear hmv t1 HAT c0 hr1 cf hget hne hfa hpn hmem hpok
      go_wp2_with fail
      exact HA.out _ _ _ _ _ _ _ _ _ _ _ _ _ _ _ _ _ _ _ _ _ _ _ _ _ _ _ _ _ _ _ _ _ _ _ _ _ _ _ _ _ _ _ _ _ _ _ _ _ _ _ _ _ _ _ _ _ _ _ _ _ _ _ _ _ _ _ _ _ _ _ _ _ _ _ _ _ _ _ _ _ _ _ _ _ _ _ _ _ _ _ _ _ _ _ _ _ _ _ _ _ _ _ _ _ _ _ _ _ _ _ _ _ _ _ _ _ _ _ _ _ _ _ _ _ _ _ _ _ _ _ _ _ _ _ _ _ _ _ _ _ _ _ _ _ _ _ _ _ _ _ _ _ _ _ _ _ _ _ _ _ _ _ _ _ _ _ _ _ _ _ _ _ _ _ _ _ _ _ _ _ _ _ _ _ _ _ _ _ _ _ _ _ _ _ _ _ _ _ _ _ _ _ _ _ _ _ _ _ _ _ _ _ _ _ _ _ _ _ _ _ _ _ _ _ _ _ _ _ _ _ _ _ _ _ _ _ _ _ _ _ _ _ _ _ _ _ _ _ _ _ _ _ _ _ _ _ _ _ _ (rangeAt_turn HX.out HT1.out id) (.inl ⟨rfl, by decide, .inr ⟨by decide, F, J, d, L, C, rs, ((HNOW.out.turn0 HT1.out).less (by omega)), HV.out.turn0 HT1.out⟩⟩)
    · rw [hfa] at cf
      obtain ⟨r, F1, rfl, haft, t1, hgr⟩ := aft_of HNOW.out hi12 (show ((rs.getD i rf0).at a.key).Ok from ⟨HAOK.out.klen, HAOK.out.kok⟩) (HNOW.out.good.moved i hi12 hne a.key) (secR_seal (fun e => hne (by have := congrArg Rf.name e; exact this))) ly
      have c33 : w1.cell? ⟨g1, o1 + p * 34 + 33, none⟩ = some (.bool false) := rangeAt_turn hr1 t1 hg1l.2 33 _ (by rw [hget]; exact cf)
      have hbm := HNOW.out.bes.move HNOW.out.good.len i hi12 p hpl hget (by unfold hasN; rw [decide_eq_false hne]; rfl) ((rs.getD i rf0).at a.key) rfl
      have ho1 := HV.out.step t1 hgr
      have hX1 := rangeAt_turn HX.out t1 HXM.out.2
      obtain ⟨gp', cap', cur, hsl, hbg, hheap, hncap, _, hcs, htk⟩ := HNV.out.2.resolve_left (fun h => by omega)
      have hq := HNM.out gp' (by rw [hsl]; rfl)
      injection hsl with q1 q2 q3
      subst q1 q3
      have hrb : RB w1 gp' l (cur.toList.drop (l.length * 34)) := ⟨by rw [t1.block gp' hq.1 hq.2.1, hheap, ← htk, HN.out, List.take_append_drop], HV.out.row.ok⟩
      have hrb2 := hrb.setKey p hpl a.key HAOK.out.klen HAOK.out.kok
      rw [hget] at hrb2
      have hthere : w1.there gp' (p * 34 + 1) (keyV a.key).toArray.size := fun j hj => by
        have h0 := hrb.there p hpl (1 + j) (by have := keyV_len HAOK.out.klen; simp at hj; omega)
        rwa [← Nat.add_assoc] at h0
      have HTH := Lib.hid hthere
      have tS := turn_setCells gp' (keyV a.key) (p * 34 + 1) w1
      have hm1 : ∀ k, Mn F1 J T k → k ≠ gp' := fun k hk e => by
        rcases hgr k hk with h | h
        · exact hq.2.1 (e ▸ h)
        · have := hq.1; omega
      have haft2 := haft.turn' tS hm1 (fun e => by have := HTW.out.1; have := hq.2.2.1; omega) (fun k hk e => by have := hq.2.2.1; omega)
      have HAFT := Lib.hid haft2
      have HBM := Lib.hid hbm
      have HXK := Lib.hid (act_key hX1)
      have HX1 := Lib.hid (rangeAt_turn hX1 tS (fun e => hq.2.2.2.1 e.symm))
      have HO1 := Lib.hid (show Own (w1.setCells gp' (p * 34 + 1) (keyV a.key)) F1 J T (.slice (some ⟨g1, o1, none⟩) n lc) l from ⟨ho1.row.turn tS (fun q hq1 => hq.2.2.2.2 q hq1), fun q h1 h2 => ⟨Nat.lt_of_lt_of_le (ho1.off q h1 h2).1 tS.size, (ho1.off q h1 h2).2⟩⟩)
      have HO2 := Lib.hid (show Own (w1.setCells gp' (p * 34 + 1) (keyV a.key)) F1 J T (.slice (some ⟨gp', 0, none⟩) n nc) (l.set p ((rs.getD i rf0).at a.key)) from by
        refine ⟨?_, fun q h1 h2 => ?_⟩
        · have := RB.rowV (rest := []) (by rw [List.append_nil]; exact hrb2) (c := nc) (by simp [HN.out]; omega)
          rwa [List.length_set, HN.out] at this
        · cases h1
          exact ⟨hrb2.lt, fun hm => hm1 gp' hm rfl⟩)
      clear hmv HAT c0 hr1 cf hne hfa hpn hmem hpok ly haft t1 hgr hbm ho1 hX1 hrb hrb2 hthere tS hm1 haft2 hq hheap hcs htk hbg hg1l
      go_wp2_with (with_reducible (show wpList _ _ _ (Oper.mk (some 143) (.load 30 (.tmp 142)) _ _ _ _ :: _) _ _); refine still ?_)
      refine wpList_load_mid rfl 30 (.tmp 142) rfl X 3 (by first | rfl | simp) (keyV a.key) _ HXK.out Tryd.underlying30 rfl (by rw [keyV_len HAOK.out.klen]; kernel_rfl) ?_
      go_wp2_with (with_reducible (show wpList _ _ _ (Oper.mk none (.store 35 (.tmp 145) (.tmp 143)) _ _ _ _ :: _) _ _); refine still ?_)
      refine wpList_store_mid rfl 35 (.tmp 145) (.tmp 143) rfl gp' (p * 34 + 1) (keyV a.key).toArray (by first | rfl | simp) rfl HTH.out (by simp [keyV_len HAOK.out.klen, info35]) (all_oneCell_toArray (keyV_one a.key)) ?_
      rw [show (keyV a.key).toArray.toList = keyV a.key from rfl]
      generalize w1.setCells gp' (p * 34 + 1) (keyV a.key) = w2 at *
      clear HTH
      go_wp2_with fail
      exact HA.out _ _ _ _ _ _ _ _ _ _ _ _ _ _ _ _ _ _ _ _ _ _ _ _ _ _ _ _ _ _ _ _ _ _ _ _ _ _ _ _ _ _ _ _ _ _ _ _ _ _ _ _ _ _ _ _ _ _ _ _ _ _ _ _ _ _ _ _ _ _ _ _ _ _ _ _ _ _ _ _ _ _ _ _ _ _ _ _ _ _ _ _ _ _ _ _ _ _ _ _ _ _ _ _ _ _ _ _ _ _ _ _ _ _ _ _ _ _ _ _ _ _ _ _ _ _ _ _ _ _ _ _ _ _ _ _ _ _ _ _ _ _ _ _ _ _ _ _ _ _ _ _ _ _ _ _ _ _ _ _ _ _ _ _ _ _ _ _ _ _ _ _ _ _ _ _ _ _ _ _ _ _ _ _ _ _ _ _ _ _ _ _ _ _ _ _ _ _ _ _ _ _ _ _ _ _ _ _ _ _ _ _ _ _ _ _ _ _ _ _ _ _ _ _ _ _ _ _ _ _ _ _ _ _ _ _ _ _ _ _ _ _ _ _ _ _ _ _ _ _ _ _ _ _ _ _ _ _ _ _ HX1.out (HAFT.out.sw HNOW.out.bes HBM.out HO1.out HO2.out)
end Go.Proofs.YtnenkclihgeacaaDoor
/- Own contracts: an act that makes a ref. No statement is proved here. -/
namespace Go.Proofs.YtnenkclihgeacaaDoor
set_option maxRecDepth 100000
open Go.RowKit
set_option linter.unusedVariables false
set_option linter.unusedSimpArgs false

theorem act_f (a : ActM) (h : a.Ok) : a.vals[35]? = some (.bool a.fast) := by
  rw [ActM.vals, List.getElem?_cons_succ, List.getElem?_cons_succ, List.getElem?_cons_succ, List.getElem?_append_right (by simp [h.klen])]
  simp [h.klen]
theorem full_of {rs l : List Rf} (g : GoodR rs 12) (h : Beside rs l) : (rs.findIdx? frB = none → l.length = 12) ∧ (∀ i, rs.findIdx? frB = some i → l.length < 12 ∧ i < 12 ∧ rs.getD i rf0 = rf0) := by
  have hl := h.perm.length_eq
  have h12 := g.len
  refine ⟨fun hf => ?_, fun i hf => ?_⟩
  · rw [hl, ← h12]
    congr 1
    rw [List.filter_eq_self]
    intro x hx
    rw [List.findIdx?_eq_none_iff] at hf
    have hx0 := hf x hx
    obtain ⟨j, hj, rfl⟩ := List.getElem_of_mem hx
    have hg : rs.getD j rf0 = rs[j] := by simp [List.getD, hj]
    rcases g.each j (by omega) with e | e
    · rw [hg] at e
      unfold frB at hx0
      rw [e] at hx0
      simp at hx0
    · rw [hg] at e
      exact has_right e
  · rw [List.findIdx?_eq_some_iff_getElem] at hf
    obtain ⟨hi, hp, _⟩ := hf
    have hg : rs.getD i rf0 = rs[i] := by simp [List.getD, hi]
    have e : rs[i] = rf0 := by unfold frB at hp; simpa using hp
    refine ⟨?_, by omega, by rw [hg, e]⟩
    rw [hl, ← h12]
    refine List.length_filter_lt_length_iff_exists.2 ⟨rs[i], List.getElem_mem _, ?_⟩
    rw [e]
    decide
set_option maxHeartbeats 16000000 in
theorem sw_make (u1 u5 u11 u15 u16 u17 u18 u19 u20 u21 u22 u23 u24 u25 u26 u27 u28 u29 u30 u31 u32 u33 u34 u35 u36 u37 u38 u39 u40 u41 u42 u43 u44 u45 u46 u47 u48 u49 u50 u51 u52 u53 u54 u55 u56 u57 u58 u59 u60 u61 u62 u63 u64 u65 u66 u67 u68 u69 u70 u71 u72 u73 u74 u75 u76 u77 u78 u79 u80 u81 u82 u83 u84 u85 u86 u87 u88 u89 u90 u91 u92 u93 u94 u95 u96 u97 u98 u99 u100 u101 u102 u103 u104 u105 u106 u107 u108 u109 u110 u111 u112 u113 u114 u115 u116 u117 u118 u119 u120 u121 u122 u123 u124 u125 u126 u127 u128 u129 u130 u131 u132 u133 u134 u135 u136 u137 u138 u139 u140 u141 u142 u143 u144 u145 u146 u147 u148 u149 u150 u151 u152 u153 u154 u155 u156 u157 u158 u159 u160 u161 u162 u163 u164 u165 u166 u167 u168 u169 u170 u171 u172 u173 u174 u175 u176 u177 u178 u179 u180 u181 u182 u183 u184 u185 u186 u187 u188 u189 u190 u191 u192 u193 u194 u195 u196 u197 u198 u199 u200 u201 u202 u203 u204 u205 u206 u207 u208 u209 u210 u211 u212 u213 u214 u215 u216 u217 u218 u219 u220 u221 u222 u223 u224 u225 u226 u227 u228 u229 u230 u231 u232 u233 u234 u235 u236 u237 u238 u239 u240 u241 u242 u243 u244 u245 u246 u247 u248 u249 u250 u251 u252 u253 u254 u255 u256 u257 u258 u259 u260 u261 u262 u263 u264 u265 av : Value) (W w : World) (B : Nat) (F : Nat → Prop) (T J D : Nat) (d : DiskM) (L : Nat) (C : List (List Int)) (nn : Nat) (rs l : List Rf) (la na : Option Addr) (n lc nc i X : Nat) (s : ByteArray) (at_ : Int) (a : ActM)
    (h : Now W w B F T J D d L C (nn + 400) rs l) (hn : l.length = n) (hv : Own w F J T (.slice la n lc) l) (Pb : Nat) (hnv : w.ownsRow Pb 37 34 (.slice na n nc) n (rfsV l)) (hnm : ∀ q, (Value.slice na n nc).ownBlock = some q → q < w.heap.size ∧ ¬ Mn F J T q ∧ W.heap.size ≤ q ∧ q ≠ X ∧ (∀ p, (Value.slice la n lc).ownBlock = some p → p ≠ q)) (hX : w.rangeAt X 0 a.vals) (hXm : X < w.heap.size ∧ ¬ Mn F J T X) (hs : s = a.nm) (haok : a.Ok) (hnsz : s.size ≤ 9223372036854775807) (tab : Tab W)
    (hat : (at_ = -1 ∧ ∀ x ∈ l, x.name ≠ s) ∨ ∃ p : Nat, p < n ∧ at_ = (p : Int) ∧ (l.getD p rf0).name = s) (A : Act → World → Prop)
    (hA : ∀ (v1 v5 v10 v11 v15 v16 v17 v18 v19 v20 v21 v22 v23 v24 v25 v26 v27 v28 v29 v30 v31 v32 v33 v34 v35 v36 v37 v38 v39 v40 v41 v42 v43 v44 v45 v46 v47 v48 v49 v50 v51 v52 v53 v54 v55 v56 v57 v58 v59 v60 v61 v62 v63 v64 v65 v66 v67 v68 v69 v70 v71 v72 v73 v74 v75 v76 v77 v78 v79 v80 v81 v82 v83 v84 v85 v86 v87 v88 v89 v90 v91 v92 v93 v94 v95 v96 v97 v98 v99 v100 v101 v102 v103 v104 v105 v106 v107 v108 v109 v110 v111 v112 v113 v114 v115 v116 v117 v118 v119 v120 v121 v122 v123 v124 v125 v126 v127 v128 v129 v130 v131 v132 v133 v134 v135 v136 v137 v138 v139 v140 v141 v142 v143 v144 v145 v146 v147 v148 v149 v150 v151 v152 v153 v154 v155 v156 v157 v158 v159 v160 v161 v162 v163 v164 v165 v166 v167 v168 v169 v170 v171 v172 v173 v174 v175 v176 v177 v178 v179 v180 v181 v182 v183 v184 v185 v186 v187 v188 v189 v190 v191 v192 v193 v194 v195 v196 v197 v198 v199 v200 v201 v202 v203 v204 v205 v206 v207 v208 v209 v210 v211 v212 v213 v214 v215 v216 v217 v218 v219 v220 v221 v222 v223 v224 v225 v226 v227 v228 v229 v230 v231 v232 v233 v234 v235 v236 v237 v238 v239 v240 v241 v242 v243 v244 v245 v246 v247 v248 v249 v250 v251 v252 v253 v254 v255 v256 v257 v258 v259 v260 v261 v262 v263 v264 v265 : Value) (T1 : Nat) (nv1 : Value) (wt ea : Int) (w' : World), w'.rangeAt X 0 a.vals → Sw W w' B D nn l (.slice la n lc) T1 nv1 wt ea → A { tmps := List.toArray (av :: v1 :: .bool false :: .pointer (some ⟨D, 0, none⟩) :: .pointer (some ⟨T1, 0, none⟩) :: v5 :: .slice la n lc :: .int .i64 (i : Int) :: .pointer (some ⟨X, 0, none⟩) :: .string s :: v10 :: v11 :: nv1 :: .int .i64 wt :: .int .i64 ea :: v15 :: v16 :: v17 :: v18 :: v19 :: v20 :: v21 :: v22 :: v23 :: v24 :: v25 :: v26 :: v27 :: v28 :: v29 :: v30 :: v31 :: v32 :: v33 :: v34 :: v35 :: v36 :: v37 :: v38 :: v39 :: v40 :: v41 :: v42 :: v43 :: v44 :: v45 :: v46 :: v47 :: v48 :: v49 :: v50 :: v51 :: v52 :: v53 :: v54 :: v55 :: v56 :: v57 :: v58 :: v59 :: v60 :: v61 :: v62 :: v63 :: v64 :: v65 :: v66 :: v67 :: v68 :: v69 :: v70 :: v71 :: v72 :: v73 :: v74 :: v75 :: v76 :: v77 :: v78 :: v79 :: v80 :: v81 :: v82 :: v83 :: v84 :: v85 :: v86 :: v87 :: v88 :: v89 :: v90 :: v91 :: v92 :: v93 :: v94 :: v95 :: v96 :: v97 :: v98 :: v99 :: v100 :: v101 :: v102 :: v103 :: v104 :: v105 :: v106 :: v107 :: v108 :: v109 :: v110 :: v111 :: v112 :: v113 :: v114 :: v115 :: v116 :: v117 :: v118 :: v119 :: v120 :: v121 :: v122 :: v123 :: v124 :: v125 :: v126 :: v127 :: v128 :: v129 :: v130 :: v131 :: v132 :: v133 :: v134 :: v135 :: v136 :: v137 :: v138 :: v139 :: v140 :: v141 :: v142 :: v143 :: v144 :: v145 :: v146 :: v147 :: v148 :: v149 :: v150 :: v151 :: v152 :: v153 :: v154 :: v155 :: v156 :: v157 :: v158 :: v159 :: v160 :: v161 :: v162 :: v163 :: v164 :: v165 :: v166 :: v167 :: v168 :: v169 :: v170 :: v171 :: v172 :: v173 :: v174 :: v175 :: v176 :: v177 :: v178 :: v179 :: v180 :: v181 :: v182 :: v183 :: v184 :: v185 :: v186 :: v187 :: v188 :: v189 :: v190 :: v191 :: v192 :: v193 :: v194 :: v195 :: v196 :: v197 :: v198 :: v199 :: v200 :: v201 :: v202 :: v203 :: v204 :: v205 :: v206 :: v207 :: v208 :: v209 :: v210 :: v211 :: v212 :: v213 :: v214 :: v215 :: v216 :: v217 :: v218 :: v219 :: v220 :: v221 :: v222 :: v223 :: v224 :: v225 :: v226 :: v227 :: v228 :: v229 :: v230 :: v231 :: v232 :: v233 :: v234 :: v235 :: v236 :: v237 :: v238 :: v239 :: v240 :: v241 :: v242 :: v243 :: v244 :: v245 :: v246 :: v247 :: v248 :: v249 :: v250 :: v251 :: v252 :: v253 :: v254 :: v255 :: v256 :: v257 :: v258 :: v259 :: v260 :: v261 :: v262 :: v263 :: v264 :: v265 :: []), defers := [] } w') (q : Nat) (hq : q < 3) (hk : a.k % 8 = q) :
    Code.wp Tryd.prog (plC [1, 1, 1, 1, 1, 0, 1, 0, 0, 1, 0, 0, 1, 1, 1, 1, 1, 1, 1, 1, 0]) (Exit.then A fun _ _ _ => False) { tmps := List.toArray (av :: u1 :: .bool false :: .pointer (some ⟨D, 0, none⟩) :: .pointer (some ⟨T, 0, none⟩) :: u5 :: .slice la n lc :: .int .i64 (i : Int) :: .pointer (some ⟨X, 0, none⟩) :: .string s :: .int .i64 at_ :: u11 :: .slice na n nc :: .int .i64 0 :: .int .i64 0 :: u15 :: u16 :: u17 :: u18 :: u19 :: u20 :: u21 :: u22 :: u23 :: u24 :: u25 :: u26 :: u27 :: u28 :: u29 :: u30 :: u31 :: u32 :: u33 :: u34 :: u35 :: u36 :: u37 :: u38 :: u39 :: u40 :: u41 :: u42 :: u43 :: u44 :: u45 :: u46 :: u47 :: u48 :: u49 :: u50 :: u51 :: u52 :: u53 :: u54 :: u55 :: u56 :: u57 :: u58 :: u59 :: u60 :: u61 :: u62 :: u63 :: u64 :: u65 :: u66 :: u67 :: u68 :: u69 :: u70 :: u71 :: u72 :: u73 :: u74 :: u75 :: u76 :: u77 :: u78 :: u79 :: u80 :: u81 :: u82 :: u83 :: u84 :: u85 :: u86 :: u87 :: u88 :: u89 :: u90 :: u91 :: u92 :: u93 :: u94 :: u95 :: u96 :: u97 :: u98 :: u99 :: u100 :: u101 :: u102 :: u103 :: u104 :: u105 :: u106 :: u107 :: u108 :: u109 :: u110 :: u111 :: u112 :: u113 :: u114 :: u115 :: u116 :: u117 :: u118 :: u119 :: u120 :: u121 :: u122 :: u123 :: u124 :: u125 :: u126 :: u127 :: u128 :: u129 :: u130 :: u131 :: u132 :: u133 :: u134 :: u135 :: u136 :: u137 :: u138 :: u139 :: u140 :: u141 :: u142 :: u143 :: u144 :: u145 :: u146 :: u147 :: u148 :: u149 :: u150 :: u151 :: u152 :: u153 :: u154 :: u155 :: u156 :: u157 :: u158 :: u159 :: u160 :: u161 :: u162 :: u163 :: u164 :: u165 :: u166 :: u167 :: u168 :: u169 :: u170 :: u171 :: u172 :: u173 :: u174 :: u175 :: u176 :: u177 :: u178 :: u179 :: u180 :: u181 :: u182 :: u183 :: u184 :: u185 :: u186 :: u187 :: u188 :: u189 :: u190 :: u191 :: u192 :: u193 :: u194 :: u195 :: u196 :: u197 :: u198 :: u199 :: u200 :: u201 :: u202 :: u203 :: u204 :: u205 :: u206 :: u207 :: u208 :: u209 :: u210 :: u211 :: u212 :: u213 :: u214 :: u215 :: u216 :: u217 :: u218 :: u219 :: u220 :: u221 :: u222 :: u223 :: u224 :: u225 :: u226 :: u227 :: u228 :: u229 :: u230 :: u231 :: u232 :: u233 :: u234 :: u235 :: u236 :: u237 :: u238 :: u239 :: u240 :: u241 :: u242 :: u243 :: u244 :: u245 :: u246 :: u247 :: u248 :: u249 :: u250 :: u251 :: u252 :: u253 :: u254 :: u255 :: u256 :: u257 :: u258 :: u259 :: u260 :: u261 :: u262 :: u263 :: u264 :: u265 :: []), defers := [] } w := by
  have HA := Lib.hid hA
  have hl12 : n ≤ 12 := by rw [← hn, h.bes.perm.length_eq, ← h.good.len]; exact List.length_filter_le _ _
  have hcap := hv.row.cap hn
  have HNOW := Lib.hid h
  have HV := Lib.hid hv
  have HX := Lib.hid hX
  have HXM := Lib.hid hXm
  have HN := Lib.hid hn
  have HAT := Lib.hid hat
  have HAOK := Lib.hid haok
  have c0 : w.cell? ⟨X, 0, none⟩ = some (.int .u8 (a.k : Int)) := by have := hX 0 _ (act_k a); simpa using this
  have c35 : w.cell? ⟨X, 35, none⟩ = some (.bool a.fast) := by have := hX 35 _ (act_f a haok); simpa using this
  have k1 : ((a.k : Int)).tmod 8 = (q : Int) := by rw [Int.tmod_eq_emod_of_nonneg (by omega)]; omega
  have k2 : (a.k : Int) % 8 = (q : Int) := by omega
  have k3 : IntKind.u8.wrap (q : Int) = (q : Int) := by rw [IntKind.wrap_u8]; omega
  have d3 : ((q : Int) == 3) = false := by rw [beq_eq_false_iff_ne]; omega
  have d4 : ((q : Int) == 4) = false := by rw [beq_eq_false_iff_ne]; omega
  have d5 : ((q : Int) == 5) = false := by rw [beq_eq_false_iff_ne]; omega
  have d6 : ((q : Int) == 6) = false := by rw [beq_eq_false_iff_ne]; omega
  have d7 : ((q : Int) == 7) = false := by rw [beq_eq_false_iff_ne]; omega
  have hz := zero37
  have HR := Lib.hid (show (⟨s, a.key, a.fast⟩ : Rf).name = s from rfl)
  have hrok : (⟨s, a.key, a.fast⟩ : Rf).Ok := ⟨haok.klen, haok.kok⟩
  obtain ⟨r, hr⟩ : ∃ r, (⟨s, a.key, a.fast⟩ : Rf) = r := ⟨_, rfl⟩
  rw [hr] at hrok HR
  have HOK := Lib.hid hrok
  have HRR := Lib.hid hr
  have HSZ := Lib.hid hnsz
  clear hA h hv hnv hnm hX hXm hs hn hat tab haok hrok hr hnsz
  conv => arg 2; whnf
  go_wp2_with (with_reducible (show wpList _ _ _ (Oper.mk (some 81) (.load 30 (.tmp 80)) _ _ _ _ :: _) _ _); refine still ?_)
  clear d3 d4 d5 d6 d7 k1 k2 k3
  refine wpList_load_mid rfl 30 (.tmp 80) rfl X 3 (by first | rfl | simp) (keyV a.key) _ (act_key HX.out) Tryd.underlying30 rfl (by rw [keyV_len HAOK.out.klen]; kernel_rfl) ?_
  go_wp2_with (with_reducible (show wpList _ _ _ (Oper.mk (some 84) (.build 37 _) _ _ _ _ :: _) _ _); refine still ?_)
  refine list_exec rfl _ _ (exec_build37a _ _ _ _ _ rfl s a.fast a.key HAOK.out.klen rfl rfl rfl _) ?_
  rw [HRR.out]
  go_wp2_with (with_reducible (show wpList _ _ _ (Oper.mk none (.store 37 (.tmp 19) (.tmp 84)) _ _ _ _ :: _) _ _); refine still ?_)
  refine list_box w 37 z37 r.vals (by rw [HOK.out.vlen]; exact rf0_ok.vlen) r.vals_one (by rw [HOK.out.vlen]; exact info37) rfl (.tmp 19) (.tmp 84) rfl rfl rfl (fun wb hb => ?_)
  obtain ⟨Y, hY⟩ : ∃ Y, w.heap.size = Y := ⟨_, rfl⟩
  have HYR := Lib.hid (show wb.rangeAt Y 0 r.vals from by rw [← hY]; exact hb.range)
  have HTB := Lib.hid hb.turn
  have HYL := Lib.hid hY
  have hbs := hb.size
  have HBS := Lib.hid hbs
  rw [hY]
  clear hb hz hY hbs c0 c35
  go_wp2_with (with_reducible (show wpList _ _ _ (Oper.mk (some 86) (.load 37 (.tmp 19)) _ _ _ _ :: _) _ _); refine still ?_)
  refine wpList_load_mid rfl 37 (.tmp 19) rfl Y 0 rfl r.vals _ HYR.out Tryd.underlying37 rfl (by rw [HOK.out.vlen]; exact info37) ?_
  have HNB := Lib.hid (HNOW.out.turn0 HTB.out)
  go_wp2_with fail
  refine (make_any wb B F T J D d L C (nn + 100) rs r (HNB.out.lb.less (by omega)) HOK.out).mono ?_
  intro e w1 hmk
  have HNOB := Lib.hid (show ∀ p : Nat, p < n → (l.getD p rf0).name = s → rs.findIdx? (nmB s) ≠ none from fun p hp hpn h0 =>
    ((HNOW.out.bes.there HNOW.out.good s).2 (.inr h0)).2 _ (getR_mem (by rw [HN.out]; exact hp)) hpn)
  by_cases hri : rightB s = true
  · rw [← HR.out] at hri
    rcases HAT.out with ⟨rfl, hno⟩ | ⟨p, hp, rfl, hpn⟩
    · have hfn : rs.findIdx? (nmB s) = none := by
        rcases hf : rs.findIdx? (nmB s) with _ | i
        · rfl
        · have h9 := (HNOW.out.bes.there HNOW.out.good s).1 i (by rw [← HR.out]; exact right_ne hri) hf
          exact absurd h9.2.1 (hno _ h9.2.2)
      obtain ⟨hf1, hf2⟩ := full_of HNOW.out.good HNOW.out.bes
      have HNO := Lib.hid hno
      have HFN := Lib.hid hfn
      have HRI := Lib.hid hri
      rcases hmk with ⟨h0, _⟩ | ⟨_, h0, _⟩ | ⟨_, _, h0, rfl, t1⟩ | ⟨_, _, i, hi, hi12, ly⟩
      · rw [hri] at h0; cases h0
      · rw [HR.out] at h0; exact absurd hfn h0
      · have d12 : decide ((12 : Int) ≤ (n : Int)) = true := decide_eq_true (by have := hf1 h0; have := HN.out; omega)
        have HT1 := Lib.hid t1
        clear t1 h0 hf1 hf2 hno hfn hri HAT
        go_wp2_with fail
        refine (lright_any s w1 HSZ.out).mono ?_
        rintro e ww ⟨rfl, rfl⟩
        rw [show rightB s = true by rw [← HR.out]; exact HRI.out]
        go_wp2_with fail
        exact HA.out _ _ _ _ _ _ _ _ _ _ _ _ _ _ _ _ _ _ _ _ _ _ _ _ _ _ _ _ _ _ _ _ _ _ _ _ _ _ _ _ _ _ _ _ _ _ _ _ _ _ _ _ _ _ _ _ _ _ _ _ _ _ _ _ _ _ _ _ _ _ _ _ _ _ _ _ _ _ _ _ _ _ _ _ _ _ _ _ _ _ _ _ _ _ _ _ _ _ _ _ _ _ _ _ _ _ _ _ _ _ _ _ _ _ _ _ _ _ _ _ _ _ _ _ _ _ _ _ _ _ _ _ _ _ _ _ _ _ _ _ _ _ _ _ _ _ _ _ _ _ _ _ _ _ _ _ _ _ _ _ _ _ _ _ _ _ _ _ _ _ _ _ _ _ _ _ _ _ _ _ _ _ _ _ _ _ _ _ _ _ _ _ _ _ _ _ _ _ _ _ _ _ _ _ _ _ _ _ _ _ _ _ _ _ _ _ _ _ _ _ _ _ _ _ _ _ _ _ _ _ _ _ _ _ _ _ _ _ _ _ _ _ _ _ _ _ _ _ _ _ _ _ _ _ _ _ _ _ _ _ (rangeAt_turn (rangeAt_turn HX.out HTB.out id) HT1.out id) (.inl ⟨rfl, by decide, .inr ⟨by decide, F, J, d, L, C, rs, ((HNB.out.turn0 HT1.out).less (by omega)), (HV.out.turn0 HTB.out).turn0 HT1.out⟩⟩)
      · obtain ⟨hl12', _, hi0⟩ := hf2 i hi
        have d12 : decide ((12 : Int) ≤ (n : Int)) = false := decide_eq_false (by have := HN.out; omega)
        have hgs : GoodR (rs.set i r) 12 := good_set HNOW.out.good i hi12 r (.inr ⟨hri, fun j hj hne he => by
          rw [List.findIdx?_eq_none_iff] at hfn
          have hjl : j < rs.length := by rw [HNOW.out.good.len]; exact hj
          have h9 := hfn _ (getR_mem hjl)
          unfold nmB at h9
          rw [he, HR.out] at h9
          simp at h9⟩)
        obtain ⟨ra, F1, rfl, haft, t1, hgr⟩ := aft_of HNB.out hi12 HOK.out hgs (secR_seal (fun e => right_ne hri (by rw [e]; rfl))) ly
        have ho1 := (HV.out.turn0 HTB.out).step t1 hgr
        have hY1 : ¬ Mn F J T Y := fun hm => by have := HNOW.out.lb.lt Y hm; have := HYL.out; omega
        have HYR1 := Lib.hid (rangeAt_turn HYR.out t1 hY1)
        have HX1 := Lib.hid (rangeAt_turn (rangeAt_turn HX.out HTB.out id) t1 HXM.out.2)
        have HAFT := Lib.hid haft
        have HO3 := Lib.hid ho1
        have HHAS := Lib.hid (has_right hri)
        have HI := Lib.hid (show i < 12 ∧ rs.getD i rf0 = rf0 from ⟨hi12, hi0⟩)
        clear t1 haft hgr ho1 hY1 ly hgs hf1 hf2 hno hfn hri HAT hi hi12 hi0 hl12'
        go_wp2_with fail
        refine (lright_any s w1 HSZ.out).mono ?_
        rintro e ww ⟨rfl, rfl⟩
        rw [show rightB s = true by rw [← HR.out]; exact HRI.out]
        go_wp2_with fail
        refine mk_find _ _ _ _ _ _ _ _ _ _ _ _ _ _ _ _ _ _ _ _ _ _ _ _ _ _ _ _ _ _ _ _ _ _ _ _ _ _ _ _ _ _ _ _ _ _ _ _ _ _ _ _ _ _ _ _ _ _ _ _ _ _ _ _ _ _ _ _ _ _ _ _ _ _ _ _ _ _ _ _ _ _ _ _ _ _ _ _ _ _ _ _ _ _ _ _ _ _ _ _ _ _ _ _ _ _ _ _ _ _ _ _ _ _ _ _ _ _ _ _ _ _ _ _ _ _ _ _ _ _ _ _ _ _ _ _ _ _ _ _ _ _ _ _ _ _ _ _ _ _ _ _ _ _ _ _ _ _ _ _ _ _ _ _ _ _ _ _ _ _ _ _ _ _ _ _ _ _ _ _ _ _ _ _ _ _ _ _ _ _ _ _ _ _ _ _ _ _ _ _ _ _ _ _ _ _ _ _ _ _ _ _ _ _ _ _ _ _ _ _ _ _ _ _ _ _ _ _ _ _ _ _ _ _ _ _ _ _ _ _ _ _ _ _ _ _ _ _ _ _ _ _ _ _ _ _ _ _ _ _ _ _ _ _ la n lc l s r HR.out.symm HN.out hl12 HO3.out.row HNOW.out.bes.rise (fun x hx => by rw [HR.out]; exact HNO.out x hx) _ ?_
        intro v88 v89 v90 v91 v92 v93 v94 v95 v96 v97 v98 v99 v100 v101 v102 k w3 hk hlo hhi t3
        have HBP := Lib.hid (HNOW.out.bes.put HNOW.out.good.len i HI.out.1 HI.out.2 r HHAS.out k (by rw [HN.out]; exact hk) hlo hhi)
        have HT3 := Lib.hid (t3.trans ((Turn.refl (fun _ => False) w3).drew) (fun _ _ => id))
        have HY3 := Lib.hid (rangeAt_turn HYR1.out t3 id)
        have HYD := Lib.hid (rangeAt_turn HYR1.out HT3.out id)
        have HXD := Lib.hid (rangeAt_turn HX1.out HT3.out id)
        obtain ⟨vd, hvd⟩ : ∃ vd, Value.slice (if lc = k then la else la.map (·.add (k * 34))) (n - k) (lc - k) = vd := ⟨_, rfl⟩
        have hrow := HO3.out.row.turn HT3.out (fun _ _ => id)
        have HP3 := Lib.hid (put_three w3.drew (.slice la k lc) vd (l.take k) (l.drop k) r HOK.out (hrow.take k (by rw [HN.out]; exact hk)) (by rw [← hvd]; exact hrow.drop HN.out k hk) (by rw [List.length_take, List.length_drop]; have := HN.out; omega))
        have HVD := Lib.hid hvd
        clear hlo hhi t3 hvd hrow
        go_wp2_with fail
        refine wp_region_held_drew (S := fun wq => wq.rangeAt Y 0 r.vals) (by kernel_rfl) HY3.out (fun hHeld => ?_)
        refine wpAnyH_take (i := 0) (v := .slice la n lc) rfl (by kernel_rfl) (by kernel_rfl) (by kernel_rfl) (fun _ _ _ h => h) (Or.inl ⟨by rfl, ?yq1⟩) (by assumption) ?rq1
        case yq1 => (intro wq hSw; (try simp only [List.getElem_toArray, List.getElem_cons_zero, List.getElem_cons_succ]); go_simp; (try with_reducible rfl); all_goals (try omega))
        case rq1 =>
        try simp only [Act.put, List.setIfInBounds_toArray, List.set_cons_zero, List.set_cons_succ, List.getElem_toArray, List.getElem_cons_zero, List.getElem_cons_succ]
        refine wpAnyH_take (i := 1) (v := .int .i64 (k : Int)) rfl (by kernel_rfl) (by kernel_rfl) (by kernel_rfl) (fun _ _ _ h => h) (Or.inl ⟨by rfl, ?yq2⟩) (by assumption) ?rq2
        case yq2 => (intro wq hSw; (try simp only [List.getElem_toArray, List.getElem_cons_zero, List.getElem_cons_succ]); go_simp; (try with_reducible rfl); all_goals (try omega))
        case rq2 =>
        try simp only [Act.put, List.setIfInBounds_toArray, List.set_cons_zero, List.set_cons_succ, List.getElem_toArray, List.getElem_cons_zero, List.getElem_cons_succ]
        refine wpAnyH_take (i := 2) (v := .slice la k lc) rfl (by kernel_rfl) (by kernel_rfl) (by kernel_rfl) (fun _ _ _ h => h) (Or.inl ⟨by rfl, ?yq3⟩) (by assumption) ?rq3
        case yq3 => (intro wq hSw; exact exec_slice_hi _ _ rfl la n lc k rfl rfl (by omega) wq)
        case rq3 =>
        try simp only [Act.put, List.setIfInBounds_toArray, List.set_cons_zero, List.set_cons_succ, List.getElem_toArray, List.getElem_cons_zero, List.getElem_cons_succ]
        refine wpAnyH_take (i := 4) (v := .agg r.vals.toArray) rfl (by kernel_rfl) (by kernel_rfl) (by kernel_rfl) (fun _ _ _ h => h) (Or.inl ⟨by rfl, ?yq4⟩) (by assumption) ?rq4
        case yq4 => (intro wq hSw; exact exec_load_mid _ _ 37 _ rfl Y 0 rfl r.vals _ _ hSw Tryd.underlying37 rfl (by rw [HOK.out.vlen]; exact info37))
        case rq4 =>
        try simp only [Act.put, List.setIfInBounds_toArray, List.set_cons_zero, List.set_cons_succ, List.getElem_toArray, List.getElem_cons_zero, List.getElem_cons_succ]
        refine wpAnyH_take (i := 7) (v := .slice la n lc) rfl (by kernel_rfl) (by kernel_rfl) (by kernel_rfl) (fun _ _ _ h => h) (Or.inl ⟨by rfl, ?yq5⟩) (by assumption) ?rq5
        case yq5 => (intro wq hSw; (try simp only [List.getElem_toArray, List.getElem_cons_zero, List.getElem_cons_succ]); go_simp; (try with_reducible rfl); all_goals (try omega))
        case rq5 =>
        try simp only [Act.put, List.setIfInBounds_toArray, List.set_cons_zero, List.set_cons_succ, List.getElem_toArray, List.getElem_cons_zero, List.getElem_cons_succ]
        refine wpAnyH_take (i := 8) (v := .int .i64 (k : Int)) rfl (by kernel_rfl) (by kernel_rfl) (by kernel_rfl) (fun _ _ _ h => h) (Or.inl ⟨by rfl, ?yq6⟩) (by assumption) ?rq6
        case yq6 => (intro wq hSw; (try simp only [List.getElem_toArray, List.getElem_cons_zero, List.getElem_cons_succ]); go_simp; (try with_reducible rfl); all_goals (try omega))
        case rq6 =>
        try simp only [Act.put, List.setIfInBounds_toArray, List.set_cons_zero, List.set_cons_succ, List.getElem_toArray, List.getElem_cons_zero, List.getElem_cons_succ]
        refine wpAnyH_take (i := 9) (v := vd) rfl (by kernel_rfl) (by kernel_rfl) (by kernel_rfl) (fun _ _ _ h => h) (Or.inl ⟨by rfl, ?yq7⟩) (by assumption) ?rq7
        case yq7 => (intro wq hSw; rw [← HVD.out]; exact exec_slice_lo _ _ rfl la n lc k rfl rfl (by omega) wq)
        case rq7 =>
        try simp only [Act.put, List.setIfInBounds_toArray, List.set_cons_zero, List.set_cons_succ, List.getElem_toArray, List.getElem_cons_zero, List.getElem_cons_succ]
        refine wpAnyH_ready (rs := [3, 5]) (by kernel_rfl) (by simp) ?_
        refine AllReadyH.cons rfl (fun K hK => ?_) (AllReadyH.cons rfl (fun K hK => ?_) AllReadyH.nil)
        · obtain ⟨v2, w2, v4, w4, v5, w5, hr2, hr4, hr5, ho5, t2, t3, t4, t5⟩ := HP3.out.1
          have HR2 := Lib.hid hr2
          have HR4 := Lib.hid hr4
          have HR5 := Lib.hid hr5
          clear hr2 hr4 hr5
          rw [if_pos (by rfl)]
          refine wp_exec (exec_append2 _ _ (.const (.slice none 0 0)) (.tmp 105) 29 29 rfl _ _ _ _ _ rfl rfl HR2.out) ?_
          refine hK.out _ _ (rangeAt_turn HYD.out t2 id) (fun _ => ?_)
          clear hK K
          try simp only [Act.put, List.setIfInBounds_toArray, List.set_cons_zero, List.set_cons_succ, List.getElem_toArray, List.getElem_cons_zero, List.getElem_cons_succ]
          refine wpAnyH_ready (rs := [5]) (by kernel_rfl) (by simp) ?_
          refine AllReadyH.cons rfl (fun K hK => ?_) AllReadyH.nil
          rw [if_pos (by rfl)]
          refine wp_exec (exec_build37s _ _ (.tmp 107) rfl r HOK.out rfl _) ?_
          refine hK.out _ _ (rangeAt_turn HYD.out t3 id) (fun _ => ?_)
          clear hK K
          try simp only [Act.put, List.setIfInBounds_toArray, List.set_cons_zero, List.set_cons_succ, List.getElem_toArray, List.getElem_cons_zero, List.getElem_cons_succ]
          refine wpAnyH_ready (rs := [6]) (by kernel_rfl) (by simp) ?_
          refine AllReadyH.cons rfl (fun K hK => ?_) AllReadyH.nil
          rw [if_pos (by rfl)]
          refine wp_exec (exec_append2 _ _ (.tmp 106) (.tmp 108) 29 29 rfl _ _ _ _ _ rfl rfl HR4.out) ?_
          refine hK.out _ _ (rangeAt_turn HYD.out t4 id) (fun _ => ?_)
          clear hK K
          try simp only [Act.put, List.setIfInBounds_toArray, List.set_cons_zero, List.set_cons_succ, List.getElem_toArray, List.getElem_cons_zero, List.getElem_cons_succ]
          refine wpAnyH_ready (rs := [10]) (by kernel_rfl) (by simp) ?_
          refine AllReadyH.cons rfl (fun K hK => ?_) AllReadyH.nil
          rw [if_pos (by rfl)]
          refine wp_exec (exec_append2 _ _ (.tmp 109) (.tmp 112) 29 29 rfl _ _ _ _ _ rfl rfl HR5.out) ?_
          refine hK.out _ _ (rangeAt_turn HYD.out t5 id) (fun _ => ?_)
          clear hK K
          try simp only [Act.put, List.setIfInBounds_toArray, List.set_cons_zero, List.set_cons_succ, List.getElem_toArray, List.getElem_cons_zero, List.getElem_cons_succ]
          refine wpAnyH_take (i := 11) (v := v5) rfl (by kernel_rfl) (by kernel_rfl) (by kernel_rfl) (fun _ _ _ h => h) (Or.inl ⟨by rfl, ?yq8⟩) (by assumption) ?rq8
          case yq8 => (intro wq hSw; (try simp only [List.getElem_toArray, List.getElem_cons_zero, List.getElem_cons_succ]); go_simp; (try with_reducible rfl); all_goals (try omega))
          case rq8 =>
          try simp only [Act.put, List.setIfInBounds_toArray, List.set_cons_zero, List.set_cons_succ, List.getElem_toArray, List.getElem_cons_zero, List.getElem_cons_succ]
          refine wpAnyH_done (by kernel_rfl) ?_ _
          clear hHeld
          have hsz5 : ww.heap.size ≤ w3.drew.heap.size := HT3.out.size
          have HO2 := Lib.hid (show Own w5 F1 J T v5 (l.take k ++ r :: l.drop k) from by
            refine ⟨own_rowV ho5 (fun x hx => ?_), fun q h1 h2 => ⟨(own_new ho5 q h1).2, fun hm => ?_⟩⟩
            · rcases List.mem_append.1 hx with hx | hx
              · exact HV.out.row.ok x (List.mem_of_mem_take hx)
              · rcases List.mem_cons.1 hx with rfl | hx
                · exact HOK.out
                · exact HV.out.row.ok x (List.mem_of_mem_drop hx)
            · have h3 := HAFT.out.lt q hm
              have h4 := (own_new ho5 q h1).1
              omega)
          have HX5 := Lib.hid (rangeAt_turn HXD.out t5 id)
          have HAF5 := Lib.hid (HAFT.out.turn0 (HT3.out.trans t5 (fun _ _ => id)))
          have HO1 := Lib.hid (HO3.out.turn0 (HT3.out.trans t5 (fun _ _ => id)))
          clear t5 t4 ho5 hsz5
          go_wp2_with fail
          exact HA.out _ _ _ _ _ _ _ _ _ _ _ _ _ _ _ _ _ _ _ _ _ _ _ _ _ _ _ _ _ _ _ _ _ _ _ _ _ _ _ _ _ _ _ _ _ _ _ _ _ _ _ _ _ _ _ _ _ _ _ _ _ _ _ _ _ _ _ _ _ _ _ _ _ _ _ _ _ _ _ _ _ _ _ _ _ _ _ _ _ _ _ _ _ _ _ _ _ _ _ _ _ _ _ _ _ _ _ _ _ _ _ _ _ _ _ _ _ _ _ _ _ _ _ _ _ _ _ _ _ _ _ _ _ _ _ _ _ _ _ _ _ _ _ _ _ _ _ _ _ _ _ _ _ _ _ _ _ _ _ _ _ _ _ _ _ _ _ _ _ _ _ _ _ _ _ _ _ _ _ _ _ _ _ _ _ _ _ _ _ _ _ _ _ _ _ _ _ _ _ _ _ _ _ _ _ _ _ _ _ _ _ _ _ _ _ _ _ _ _ _ _ _ _ _ _ _ _ _ _ _ _ _ _ _ _ _ _ _ _ _ _ _ _ _ _ _ _ _ _ _ _ _ _ _ _ _ _ _ _ _ HX5.out (HAF5.out.sw HNOW.out.bes HBP.out HO1.out HO2.out)
        · obtain ⟨v2, w2, v4, w4, v5, w5, hr2, hr4, hr5, ho5, tb, t2, t4, t5⟩ := HP3.out.2
          have HR2 := Lib.hid hr2
          have HR4 := Lib.hid hr4
          have HR5 := Lib.hid hr5
          clear hr2 hr4 hr5
          rw [if_pos (by rfl)]
          refine wp_exec (exec_build37s _ _ (.tmp 107) rfl r HOK.out rfl _) ?_
          refine hK.out _ _ (rangeAt_turn HYD.out tb id) (fun _ => ?_)
          clear hK K
          try simp only [Act.put, List.setIfInBounds_toArray, List.set_cons_zero, List.set_cons_succ, List.getElem_toArray, List.getElem_cons_zero, List.getElem_cons_succ]
          refine wpAnyH_ready (rs := [3]) (by kernel_rfl) (by simp) ?_
          refine AllReadyH.cons rfl (fun K hK => ?_) AllReadyH.nil
          rw [if_pos (by rfl)]
          refine wp_exec (exec_append2 _ _ (.const (.slice none 0 0)) (.tmp 105) 29 29 rfl _ _ _ _ _ rfl rfl HR2.out) ?_
          refine hK.out _ _ (rangeAt_turn HYD.out t2 id) (fun _ => ?_)
          clear hK K
          try simp only [Act.put, List.setIfInBounds_toArray, List.set_cons_zero, List.set_cons_succ, List.getElem_toArray, List.getElem_cons_zero, List.getElem_cons_succ]
          refine wpAnyH_ready (rs := [6]) (by kernel_rfl) (by simp) ?_
          refine AllReadyH.cons rfl (fun K hK => ?_) AllReadyH.nil
          rw [if_pos (by rfl)]
          refine wp_exec (exec_append2 _ _ (.tmp 106) (.tmp 108) 29 29 rfl _ _ _ _ _ rfl rfl HR4.out) ?_
          refine hK.out _ _ (rangeAt_turn HYD.out t4 id) (fun _ => ?_)
          clear hK K
          try simp only [Act.put, List.setIfInBounds_toArray, List.set_cons_zero, List.set_cons_succ, List.getElem_toArray, List.getElem_cons_zero, List.getElem_cons_succ]
          refine wpAnyH_ready (rs := [10]) (by kernel_rfl) (by simp) ?_
          refine AllReadyH.cons rfl (fun K hK => ?_) AllReadyH.nil
          rw [if_pos (by rfl)]
          refine wp_exec (exec_append2 _ _ (.tmp 109) (.tmp 112) 29 29 rfl _ _ _ _ _ rfl rfl HR5.out) ?_
          refine hK.out _ _ (rangeAt_turn HYD.out t5 id) (fun _ => ?_)
          clear hK K
          try simp only [Act.put, List.setIfInBounds_toArray, List.set_cons_zero, List.set_cons_succ, List.getElem_toArray, List.getElem_cons_zero, List.getElem_cons_succ]
          refine wpAnyH_take (i := 11) (v := v5) rfl (by kernel_rfl) (by kernel_rfl) (by kernel_rfl) (fun _ _ _ h => h) (Or.inl ⟨by rfl, ?yq9⟩) (by assumption) ?rq9
          case yq9 => (intro wq hSw; (try simp only [List.getElem_toArray, List.getElem_cons_zero, List.getElem_cons_succ]); go_simp; (try with_reducible rfl); all_goals (try omega))
          case rq9 =>
          try simp only [Act.put, List.setIfInBounds_toArray, List.set_cons_zero, List.set_cons_succ, List.getElem_toArray, List.getElem_cons_zero, List.getElem_cons_succ]
          refine wpAnyH_done (by kernel_rfl) ?_ _
          clear hHeld
          have hsz5 : ww.heap.size ≤ (w3.drew.alloc (.cells r.vals.toArray 37)).heap.size := Nat.le_trans HT3.out.size tb.size
          have HO2 := Lib.hid (show Own w5 F1 J T v5 (l.take k ++ r :: l.drop k) from by
            refine ⟨own_rowV ho5 (fun x hx => ?_), fun q h1 h2 => ⟨(own_new ho5 q h1).2, fun hm => ?_⟩⟩
            · rcases List.mem_append.1 hx with hx | hx
              · exact HV.out.row.ok x (List.mem_of_mem_take hx)
              · rcases List.mem_cons.1 hx with rfl | hx
                · exact HOK.out
                · exact HV.out.row.ok x (List.mem_of_mem_drop hx)
            · have h3 := HAFT.out.lt q hm
              have h4 := (own_new ho5 q h1).1
              omega)
          have HX5 := Lib.hid (rangeAt_turn HXD.out t5 id)
          have HAF5 := Lib.hid (HAFT.out.turn0 (HT3.out.trans t5 (fun _ _ => id)))
          have HO1 := Lib.hid (HO3.out.turn0 (HT3.out.trans t5 (fun _ _ => id)))
          clear t5 t4 ho5 hsz5
          go_wp2_with fail
          exact HA.out _ _ _ _ _ _ _ _ _ _ _ _ _ _ _ _ _ _ _ _ _ _ _ _ _ _ _ _ _ _ _ _ _ _ _ _ _ _ _ _ _ _ _ _ _ _ _ _ _ _ _ _ _ _ _ _ _ _ _ _ _ _ _ _ _ _ _ _ _ _ _ _ _ _ _ _ _ _ _ _ _ _ _ _ _ _ _ _ _ _ _ _ _ _ _ _ _ _ _ _ _ _ _ _ _ _ _ _ _ _ _ _ _ _ _ _ _ _ _ _ _ _ _ _ _ _ _ _ _ _ _ _ _ _ _ _ _ _ _ _ _ _ _ _ _ _ _ _ _ _ _ _ _ _ _ _ _ _ _ _ _ _ _ _ _ _ _ _ _ _ _ _ _ _ _ _ _ _ _ _ _ _ _ _ _ _ _ _ _ _ _ _ _ _ _ _ _ _ _ _ _ _ _ _ _ _ _ _ _ _ _ _ _ _ _ _ _ _ _ _ _ _ _ _ _ _ _ _ _ _ _ _ _ _ _ _ _ _ _ _ _ _ _ _ _ _ _ _ _ _ _ _ _ _ _ _ _ _ _ _ HX5.out (HAF5.out.sw HNOW.out.bes HBP.out HO1.out HO2.out)
    · have hfn := HNOB.out p hp hpn
      obtain ⟨rfl, t1⟩ : e = .returned (.int .i64 3) ∧ Turn (fun _ => False) wb w1 := by
        rcases hmk with ⟨h0, _⟩ | ⟨_, h0, h1, h2⟩ | ⟨_, h0, _⟩ | ⟨_, h0, _⟩
        · rw [hri] at h0; cases h0
        · exact ⟨h1, h2⟩
        · rw [HR.out] at h0; exact absurd h0 hfn
        · rw [HR.out] at h0; exact absurd h0 hfn
      have HT1 := Lib.hid t1
      have HRI := Lib.hid hri
      have dp : decide ((0 : Int) ≤ (p : Int)) = true := decide_eq_true (by omega)
      clear hmk t1 HAT hfn hri hpn
      go_wp2_with fail
      refine (lright_any s w1 HSZ.out).mono ?_
      rintro e ww ⟨rfl, rfl⟩
      rw [show rightB s = true by rw [← HR.out]; exact HRI.out]
      go_wp2_with fail
      exact HA.out _ _ _ _ _ _ _ _ _ _ _ _ _ _ _ _ _ _ _ _ _ _ _ _ _ _ _ _ _ _ _ _ _ _ _ _ _ _ _ _ _ _ _ _ _ _ _ _ _ _ _ _ _ _ _ _ _ _ _ _ _ _ _ _ _ _ _ _ _ _ _ _ _ _ _ _ _ _ _ _ _ _ _ _ _ _ _ _ _ _ _ _ _ _ _ _ _ _ _ _ _ _ _ _ _ _ _ _ _ _ _ _ _ _ _ _ _ _ _ _ _ _ _ _ _ _ _ _ _ _ _ _ _ _ _ _ _ _ _ _ _ _ _ _ _ _ _ _ _ _ _ _ _ _ _ _ _ _ _ _ _ _ _ _ _ _ _ _ _ _ _ _ _ _ _ _ _ _ _ _ _ _ _ _ _ _ _ _ _ _ _ _ _ _ _ _ _ _ _ _ _ _ _ _ _ _ _ _ _ _ _ _ _ _ _ _ _ _ _ _ _ _ _ _ _ _ _ _ _ _ _ _ _ _ _ _ _ _ _ _ _ _ _ _ _ _ _ _ _ _ _ _ _ _ _ _ _ _ _ _ (rangeAt_turn (rangeAt_turn HX.out HTB.out id) HT1.out id) (.inl ⟨rfl, by decide, .inr ⟨by decide, F, J, d, L, C, rs, ((HNB.out.turn0 HT1.out).less (by omega)), (HV.out.turn0 HTB.out).turn0 HT1.out⟩⟩)
  · obtain ⟨rfl, t1⟩ : e = .returned (.int .i64 1) ∧ Turn (fun _ => False) wb w1 := by
      rcases hmk with ⟨_, h1, h2⟩ | ⟨h0, _⟩ | ⟨h0, _⟩ | ⟨h0, _⟩
      · exact ⟨h1, h2⟩
      · rw [HR.out] at h0; exact absurd h0 hri
      · rw [HR.out] at h0; exact absurd h0 hri
      · rw [HR.out] at h0; exact absurd h0 hri
    have hri : rightB s = false := by simpa using hri
    have HT1 := Lib.hid t1
    clear hmk t1 HAT
    go_wp2_with fail
    refine (lright_any s w1 HSZ.out).mono ?_
    rintro e ww ⟨rfl, rfl⟩
    rw [hri]
    clear hri
    go_wp2_with fail
    exact HA.out _ _ _ _ _ _ _ _ _ _ _ _ _ _ _ _ _ _ _ _ _ _ _ _ _ _ _ _ _ _ _ _ _ _ _ _ _ _ _ _ _ _ _ _ _ _ _ _ _ _ _ _ _ _ _ _ _ _ _ _ _ _ _ _ _ _ _ _ _ _ _ _ _ _ _ _ _ _ _ _ _ _ _ _ _ _ _ _ _ _ _ _ _ _ _ _ _ _ _ _ _ _ _ _ _ _ _ _ _ _ _ _ _ _ _ _ _ _ _ _ _ _ _ _ _ _ _ _ _ _ _ _ _ _ _ _ _ _ _ _ _ _ _ _ _ _ _ _ _ _ _ _ _ _ _ _ _ _ _ _ _ _ _ _ _ _ _ _ _ _ _ _ _ _ _ _ _ _ _ _ _ _ _ _ _ _ _ _ _ _ _ _ _ _ _ _ _ _ _ _ _ _ _ _ _ _ _ _ _ _ _ _ _ _ _ _ _ _ _ _ _ _ _ _ _ _ _ _ _ _ _ _ _ _ _ _ _ _ _ _ _ _ _ _ _ _ _ _ _ _ _ _ _ _ _ _ _ _ _ _ (rangeAt_turn (rangeAt_turn HX.out HTB.out id) HT1.out id) (.inl ⟨rfl, by decide, .inr ⟨by decide, F, J, d, L, C, rs, ((HNB.out.turn0 HT1.out).less (by omega)), (HV.out.turn0 HTB.out).turn0 HT1.out⟩⟩)
end Go.Proofs.YtnenkclihgeacaaDoor
