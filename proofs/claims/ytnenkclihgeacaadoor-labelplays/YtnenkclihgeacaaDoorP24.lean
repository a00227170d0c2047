/- Own texts, packed: Th, Tl. -/
import Derived.Test.YtnenkclihgeacaaDoorP22
import Derived.Test.YtnenkclihgeacaaDoorP23
/- Own contracts: what a list of refs tells of a name. No statement is proved here. -/
namespace Go.Proofs.YtnenkclihgeacaaDoor
set_option maxRecDepth 100000
open Go.RowKit
set_option linter.unusedVariables false
set_option linter.unusedSimpArgs false

def subC : List Nat → Code → Code
  | [], c => c
  | 0 :: p, .seq a _ => subC p a
  | _ :: p, .seq _ b => subC p b
  | _ :: p, .block _ a => subC p a
  | _ :: p, .loop a => subC p a
  | 0 :: p, .cond _ a _ => subC p a
  | _ :: p, .cond _ _ b => subC p b
  | _, c => c
noncomputable def plC (p : List Nat) : Code := match Tryd.f4.body with | some c => subC p c | none => .skip
def thR (s : ByteArray) (acc : Rf) (l : List Rf) : Rf := l.foldl (fun a x => if x.name = s then x else a) acc
theorem thR_none (s : ByteArray) : ∀ (l : List Rf) (acc : Rf), (∀ x ∈ l, x.name ≠ s) → thR s acc l = acc
  | [], acc, _ => rfl
  | x :: l, acc, h => by
    show thR s (if x.name = s then x else acc) l = acc
    rw [if_neg (h x List.mem_cons_self)]
    exact thR_none s l acc (fun y hy => h y (List.mem_cons_of_mem _ hy))
theorem thR_keep (s : ByteArray) (x : Rf) : ∀ (l : List Rf), (∀ y ∈ l, y.name = s → y = x) → thR s x l = x
  | [], _ => rfl
  | y :: l, h => by
    show thR s (if y.name = s then y else x) l = x
    by_cases e : y.name = s
    · rw [if_pos e, h y List.mem_cons_self e]; exact thR_keep s x l (fun z hz => h z (List.mem_cons_of_mem _ hz))
    · rw [if_neg e]; exact thR_keep s x l (fun z hz => h z (List.mem_cons_of_mem _ hz))
theorem thR_some (s : ByteArray) (x : Rf) : ∀ (l : List Rf) (acc : Rf), x ∈ l → x.name = s → (∀ y ∈ l, y.name = s → y = x) → thR s acc l = x
  | [], _, h, _, _ => by cases h
  | y :: l, acc, h, hn, hu => by
    show thR s (if y.name = s then y else acc) l = x
    by_cases e : y.name = s
    · rw [if_pos e, hu y List.mem_cons_self e]; exact thR_keep s x l (fun z hz => hu z (List.mem_cons_of_mem _ hz))
    · rw [if_neg e]
      rcases List.mem_cons.1 h with rfl | h
      · exact absurd hn e
      · exact thR_some s x l acc h hn (fun z hz => hu z (List.mem_cons_of_mem _ hz))
theorem thR_succ (s : ByteArray) (acc : Rf) (l : List Rf) (k : Nat) (hk : k < l.length) : thR s acc (l.take (k + 1)) = if (l.getD k rf0).name = s then l.getD k rf0 else thR s acc (l.take k) := by
  rw [List.take_succ_eq_append_getElem hk, show l.getD k rf0 = l[k] by simp [List.getD, hk]]
  unfold thR
  rw [List.foldl_append]
  rfl
theorem thR_ok (s : ByteArray) : ∀ (l : List Rf) (acc : Rf), acc.Ok → (∀ x ∈ l, x.Ok) → (thR s acc l).Ok
  | [], acc, h, _ => h
  | x :: l, acc, h, hl => by
    show (thR s (if x.name = s then x else acc) l).Ok
    refine thR_ok s l _ ?_ (fun y hy => hl y (List.mem_cons_of_mem _ hy))
    split
    · exact hl x List.mem_cons_self
    · exact h
theorem rise_inj {l : List Rf} (h : l.Pairwise (fun x y => cmpR x y < 0)) {x y : Rf} (hx : x ∈ l) (hy : y ∈ l) (he : x.name = y.name) : x = y := by
  obtain ⟨i, hi, rfl⟩ := List.getElem_of_mem hx
  obtain ⟨j, hj, rfl⟩ := List.getElem_of_mem hy
  rw [List.pairwise_iff_getElem] at h
  have h0 : cmpR l[i] l[j] = 0 := by unfold cmpR; rw [he]; exact cb_refl _
  have h1 : cmpR l[j] l[i] = 0 := by unfold cmpR; rw [he]; exact cb_refl _
  rcases Nat.lt_trichotomy i j with hij | hij | hij
  · have := h i j hi hj hij; omega
  · subst hij; rfl
  · have := h j i hj hi hij; omega
/-- The list tells of a name what the table tells. -/
theorem Beside.there {rs l : List Rf} (g : GoodR rs 12) (h : Beside rs l) (s : ByteArray) :
    (∀ k, s ≠ ByteArray.empty → rs.findIdx? (nmB s) = some k → thR s rf0 l = rs.getD k rf0 ∧ (rs.getD k rf0).name = s ∧ rs.getD k rf0 ∈ l) ∧ ((s = ByteArray.empty ∨ rs.findIdx? (nmB s) = none) → thR s rf0 l = rf0 ∧ ∀ x ∈ l, x.name ≠ s) := by
  have hmem : ∀ x, x ∈ l ↔ x ∈ rs ∧ hasN x = true := fun x => by rw [h.perm.mem_iff, List.mem_filter]
  refine ⟨fun k hs hk => ?_, fun hs => ?_⟩
  · rw [List.findIdx?_eq_some_iff_getElem] at hk
    obtain ⟨hkl, hp, _⟩ := hk
    have hg : rs.getD k rf0 = rs[k] := by simp [List.getD, hkl]
    have hn : rs[k].name = s := by unfold nmB at hp; simpa using hp
    have hin : rs[k] ∈ l := (hmem _).2 ⟨List.getElem_mem _, by unfold hasN; rw [hn, decide_eq_false hs]; rfl⟩
    rw [hg]
    exact ⟨thR_some s rs[k] l rf0 hin hn (fun y hy he => rise_inj h.rise hy hin (he.trans hn.symm)), hn, hin⟩
  · have hno : ∀ x ∈ l, x.name ≠ s := fun x hx he => by
      obtain ⟨h1, h2⟩ := (hmem x).1 hx
      rcases hs with hs | hs
      · unfold hasN at h2
        rw [he, hs] at h2
        simp at h2
      · rw [List.findIdx?_eq_none_iff] at hs
        have := hs x h1
        unfold nmB at this
        rw [decide_eq_false_iff_not] at this
        exact this he
    exact ⟨thR_none s l rf0 hno, hno⟩
end Go.Proofs.YtnenkclihgeacaaDoor
/- Own contracts: the end of a round. No statement is proved here. -/
namespace Go.Proofs.YtnenkclihgeacaaDoor
set_option maxRecDepth 100000
open Go.RowKit
set_option linter.unusedVariables false
set_option linter.unusedSimpArgs false

set_option maxHeartbeats 16000000 in
theorem tail_any (u1 u5 u8 u10 u11 u12 u13 u14 u15 u16 u17 u18 u19 u20 u21 u22 u23 u24 u25 u26 u27 u28 u29 u30 u31 u32 u33 u34 u35 u36 u37 u38 u39 u40 u41 u42 u43 u44 u45 u46 u47 u48 u49 u50 u51 u52 u53 u54 u55 u56 u57 u58 u59 u60 u61 u62 u63 u64 u65 u66 u67 u68 u69 u70 u71 u72 u73 u74 u75 u76 u77 u78 u79 u80 u81 u82 u83 u84 u85 u86 u87 u88 u89 u90 u91 u92 u93 u94 u95 u96 u97 u98 u99 u100 u101 u102 u103 u104 u105 u106 u107 u108 u109 u110 u111 u112 u113 u114 u115 u116 u117 u118 u119 u120 u121 u122 u123 u124 u125 u126 u127 u128 u129 u130 u131 u132 u133 u134 u135 u136 u137 u138 u139 u140 u141 u142 u143 u144 u145 u146 u147 u148 u149 u150 u151 u152 u153 u154 u155 u156 u157 u158 u159 u160 u161 u162 u163 u164 u165 u166 u167 u168 u169 u170 u171 u172 u173 u174 u175 u176 u177 u178 u179 u180 u181 u182 u183 u184 u185 u186 u187 u188 u189 u190 u191 u192 u193 u194 u195 u196 u197 u198 u199 u200 u201 u202 u203 u204 u205 u206 u207 u208 u209 u210 u211 u212 u213 u214 u215 u216 u217 u218 u219 u220 u221 u222 u223 u224 u225 u226 u227 u228 u229 u230 u231 u232 u233 u234 u235 u236 u237 u238 u239 u240 u241 u242 u243 u244 u245 u246 u247 u248 u249 u250 u251 u252 u253 u254 u255 u256 u257 u258 u259 u260 u261 u262 u263 u264 u265 av : Value) (w : World) (B : Nat) (F : Nat → Prop) (T J D : Nat) (d : DiskM) (L : Nat) (C : List (List Int)) (nn : Nat) (rs l : List Rf) (la : Option Addr) (n lc i : Nat) (s : ByteArray)
    (h : LB w B F T J D d L C nn rs) (g : GoodR rs 12) (hb : Beside rs l) (hn : l.length = n) (hv : RowV w (.slice la n lc) l) (A : Act → World → Prop)
    (hA : ∀ (v1 v5 v8 v10 v11 v12 v13 v14 v15 v16 v17 v18 v19 v20 v21 v22 v23 v24 v25 v26 v27 v28 v29 v30 v31 v32 v33 v34 v35 v36 v37 v38 v39 v40 v41 v42 v43 v44 v45 v46 v47 v48 v49 v50 v51 v52 v53 v54 v55 v56 v57 v58 v59 v60 v61 v62 v63 v64 v65 v66 v67 v68 v69 v70 v71 v72 v73 v74 v75 v76 v77 v78 v79 v80 v81 v82 v83 v84 v85 v86 v87 v88 v89 v90 v91 v92 v93 v94 v95 v96 v97 v98 v99 v100 v101 v102 v103 v104 v105 v106 v107 v108 v109 v110 v111 v112 v113 v114 v115 v116 v117 v118 v119 v120 v121 v122 v123 v124 v125 v126 v127 v128 v129 v130 v131 v132 v133 v134 v135 v136 v137 v138 v139 v140 v141 v142 v143 v144 v145 v146 v147 v148 v149 v150 v151 v152 v153 v154 v155 v156 v157 v158 v159 v160 v161 v162 v163 v164 v165 v166 v167 v168 v169 v170 v171 v172 v173 v174 v175 v176 v177 v178 v179 v180 v181 v182 v183 v184 v185 v186 v187 v188 v189 v190 v191 v192 v193 v194 v195 v196 v197 v198 v199 v200 v201 v202 v203 v204 v205 v206 v207 v208 v209 v210 v211 v212 v213 v214 v215 v216 v217 v218 v219 v220 v221 v222 v223 v224 v225 v226 v227 v228 v229 v230 v231 v232 v233 v234 v235 v236 v237 v238 v239 v240 v241 v242 v243 v244 v245 v246 v247 v248 v249 v250 v251 v252 v253 v254 v255 v256 v257 v258 v259 v260 v261 v262 v263 v264 v265 : Value) (w' : World), Turn (fun _ => False) w w' → A { tmps := List.toArray (av :: v1 :: .bool false :: .pointer (some ⟨D, 0, none⟩) :: .pointer (some ⟨T, 0, none⟩) :: v5 :: .slice la n lc :: .int .i64 (i : Int) :: v8 :: .string s :: v10 :: v11 :: v12 :: v13 :: v14 :: v15 :: v16 :: v17 :: v18 :: v19 :: v20 :: v21 :: v22 :: v23 :: v24 :: v25 :: v26 :: v27 :: v28 :: v29 :: v30 :: v31 :: v32 :: v33 :: v34 :: v35 :: v36 :: v37 :: v38 :: v39 :: v40 :: v41 :: v42 :: v43 :: v44 :: v45 :: v46 :: v47 :: v48 :: v49 :: v50 :: v51 :: v52 :: v53 :: v54 :: v55 :: v56 :: v57 :: v58 :: v59 :: v60 :: v61 :: v62 :: v63 :: v64 :: v65 :: v66 :: v67 :: v68 :: v69 :: v70 :: v71 :: v72 :: v73 :: v74 :: v75 :: v76 :: v77 :: v78 :: v79 :: v80 :: v81 :: v82 :: v83 :: v84 :: v85 :: v86 :: v87 :: v88 :: v89 :: v90 :: v91 :: v92 :: v93 :: v94 :: v95 :: v96 :: v97 :: v98 :: v99 :: v100 :: v101 :: v102 :: v103 :: v104 :: v105 :: v106 :: v107 :: v108 :: v109 :: v110 :: v111 :: v112 :: v113 :: v114 :: v115 :: v116 :: v117 :: v118 :: v119 :: v120 :: v121 :: v122 :: v123 :: v124 :: v125 :: v126 :: v127 :: v128 :: v129 :: v130 :: v131 :: v132 :: v133 :: v134 :: v135 :: v136 :: v137 :: v138 :: v139 :: v140 :: v141 :: v142 :: v143 :: v144 :: v145 :: v146 :: v147 :: v148 :: v149 :: v150 :: v151 :: v152 :: v153 :: v154 :: v155 :: v156 :: v157 :: v158 :: v159 :: v160 :: v161 :: v162 :: v163 :: v164 :: v165 :: v166 :: v167 :: v168 :: v169 :: v170 :: v171 :: v172 :: v173 :: v174 :: v175 :: v176 :: v177 :: v178 :: v179 :: v180 :: v181 :: v182 :: v183 :: v184 :: v185 :: v186 :: v187 :: v188 :: v189 :: v190 :: v191 :: v192 :: v193 :: v194 :: v195 :: v196 :: v197 :: v198 :: v199 :: v200 :: v201 :: v202 :: v203 :: v204 :: v205 :: v206 :: v207 :: v208 :: v209 :: v210 :: v211 :: v212 :: v213 :: v214 :: v215 :: v216 :: v217 :: v218 :: v219 :: v220 :: v221 :: v222 :: v223 :: v224 :: v225 :: v226 :: v227 :: v228 :: v229 :: v230 :: v231 :: v232 :: v233 :: v234 :: v235 :: v236 :: v237 :: v238 :: v239 :: v240 :: v241 :: v242 :: v243 :: v244 :: v245 :: v246 :: v247 :: v248 :: v249 :: v250 :: v251 :: v252 :: v253 :: v254 :: v255 :: v256 :: v257 :: v258 :: v259 :: v260 :: v261 :: v262 :: v263 :: v264 :: v265 :: []), defers := [] } w') :
    Code.wp Tryd.prog (plC [1, 1, 1, 1, 1, 0, 1, 0, 0, 1, 0, 0, 1, 1, 1, 1, 1, 1, 1, 1, 1, 1]) (Exit.then A fun _ _ _ => False) { tmps := List.toArray (av :: u1 :: .bool false :: .pointer (some ⟨D, 0, none⟩) :: .pointer (some ⟨T, 0, none⟩) :: u5 :: .slice la n lc :: .int .i64 (i : Int) :: u8 :: .string s :: u10 :: u11 :: u12 :: u13 :: u14 :: u15 :: u16 :: u17 :: u18 :: u19 :: u20 :: u21 :: u22 :: u23 :: u24 :: u25 :: u26 :: u27 :: u28 :: u29 :: u30 :: u31 :: u32 :: u33 :: u34 :: u35 :: u36 :: u37 :: u38 :: u39 :: u40 :: u41 :: u42 :: u43 :: u44 :: u45 :: u46 :: u47 :: u48 :: u49 :: u50 :: u51 :: u52 :: u53 :: u54 :: u55 :: u56 :: u57 :: u58 :: u59 :: u60 :: u61 :: u62 :: u63 :: u64 :: u65 :: u66 :: u67 :: u68 :: u69 :: u70 :: u71 :: u72 :: u73 :: u74 :: u75 :: u76 :: u77 :: u78 :: u79 :: u80 :: u81 :: u82 :: u83 :: u84 :: u85 :: u86 :: u87 :: u88 :: u89 :: u90 :: u91 :: u92 :: u93 :: u94 :: u95 :: u96 :: u97 :: u98 :: u99 :: u100 :: u101 :: u102 :: u103 :: u104 :: u105 :: u106 :: u107 :: u108 :: u109 :: u110 :: u111 :: u112 :: u113 :: u114 :: u115 :: u116 :: u117 :: u118 :: u119 :: u120 :: u121 :: u122 :: u123 :: u124 :: u125 :: u126 :: u127 :: u128 :: u129 :: u130 :: u131 :: u132 :: u133 :: u134 :: u135 :: u136 :: u137 :: u138 :: u139 :: u140 :: u141 :: u142 :: u143 :: u144 :: u145 :: u146 :: u147 :: u148 :: u149 :: u150 :: u151 :: u152 :: u153 :: u154 :: u155 :: u156 :: u157 :: u158 :: u159 :: u160 :: u161 :: u162 :: u163 :: u164 :: u165 :: u166 :: u167 :: u168 :: u169 :: u170 :: u171 :: u172 :: u173 :: u174 :: u175 :: u176 :: u177 :: u178 :: u179 :: u180 :: u181 :: u182 :: u183 :: u184 :: u185 :: u186 :: u187 :: u188 :: u189 :: u190 :: u191 :: u192 :: u193 :: u194 :: u195 :: u196 :: u197 :: u198 :: u199 :: u200 :: u201 :: u202 :: u203 :: u204 :: u205 :: u206 :: u207 :: u208 :: u209 :: u210 :: u211 :: u212 :: u213 :: u214 :: u215 :: u216 :: u217 :: u218 :: u219 :: u220 :: u221 :: u222 :: u223 :: u224 :: u225 :: u226 :: u227 :: u228 :: u229 :: u230 :: u231 :: u232 :: u233 :: u234 :: u235 :: u236 :: u237 :: u238 :: u239 :: u240 :: u241 :: u242 :: u243 :: u244 :: u245 :: u246 :: u247 :: u248 :: u249 :: u250 :: u251 :: u252 :: u253 :: u254 :: u255 :: u256 :: u257 :: u258 :: u259 :: u260 :: u261 :: u262 :: u263 :: u264 :: u265 :: []), defers := [] } w := by
  have hl12 : n ≤ 12 := by rw [← hn, hb.perm.length_eq, ← g.len]; exact List.length_filter_le _ _
  have HLB := Lib.hid h
  have HG := Lib.hid g
  have HB := Lib.hid hb
  have HN := Lib.hid hn
  have HV := Lib.hid hv
  have HA := Lib.hid hA
  clear h g hb hn hv hA
  conv => arg 2; whnf
  go_wp2_with fail
  refine (all_any w T J rs HLB.out.tb).mono ?_
  rintro e w1 ⟨gl, cl, l', rest, ex, rfl, hpm, hsr, hlc, hrb, hgl, t1⟩
  obtain rfl : l' = l := HB.out.all HG.out hpm hsr
  have HT1 := Lib.hid t1
  have hv1 := hrb.rowV hlc
  rw [HN.out] at hv1 ⊢
  have HV1 := Lib.hid hv1
  clear hpm hsr hlc hrb t1 hv1
  go_wp2_with fail
  refine (same_any w1 _ _ l' l' HV1.out (HV.out.turn HT1.out (fun _ _ => id)) (by have := HN.out; omega)).mono ?_
  rintro e w2 ⟨rfl, t2⟩
  rw [decide_eq_true rfl]
  have HT2 := Lib.hid (HT1.out.trans t2 (fun _ _ => id))
  clear t2
  go_wp2_with fail
  refine (get_any w2 T J rs s (HLB.out.tb.turn HT2.out id)).mono ?_
  rintro e w3 ⟨t3, hf⟩
  have HT3 := Lib.hid (HT2.out.trans t3 (fun _ _ => id))
  clear t3
  have hz := zero37
  obtain ⟨x, r, hxok, hth, hrr, rfl⟩ : ∃ (x : Rf) (r : Int), x.Ok ∧ thR s rf0 l' = x ∧ ((r = 0 ∧ x.name ≠ ByteArray.empty) ∨ (r = 2 ∧ x = rf0)) ∧ e = .returned (.tuple #[.agg x.vals.toArray, .int .i64 r]) := by
    rcases hf with ⟨k, hs, hk, hk12, rfl⟩ | ⟨hk, rfl⟩
    · obtain ⟨e1, e2, e3⟩ := (HB.out.there HG.out s).1 k hs hk
      exact ⟨rs.getD k rf0, 0, HLB.out.tb.getok k hk12, e1, .inl ⟨rfl, by rw [e2]; exact hs⟩, rfl⟩
    · exact ⟨rf0, 2, rf0_ok, ((HB.out.there HG.out s).2 hk).1, .inr ⟨rfl, rfl⟩, rfl⟩
  have HTH := Lib.hid hth
  have HRR := Lib.hid hrr
  clear hf hth hrr
  go_wp2_with (with_reducible (show wpList _ _ _ (Oper.mk none (.store 37 (.tmp 25) (.tmp 235)) _ _ _ _ :: _) _ _); refine still ?_)
  refine list_box w3 37 z37 x.vals (by rw [hxok.vlen]; exact rf0_ok.vlen) x.vals_one (by rw [hxok.vlen]; exact info37) rfl (.tmp 25) (.tmp 235) rfl rfl rfl (fun w4 hb4 => ?_)
  have HB4 := Lib.hid hb4
  clear hb4
  go_wp2_with (with_reducible (show wpList _ _ _ (Oper.mk (some 237) (.build 37 #[]) _ _ _ _ :: _) _ _); refine still ?_)
  refine list_exec rfl (.agg z37.toArray) _ (exec_build37 _ _ rfl _) ?_
  go_wp2_with (with_reducible (show wpList _ _ _ (Oper.mk none (.store 37 (.tmp 27) (.tmp 237)) _ _ _ _ :: _) _ _); refine still ?_)
  refine list_box w4 37 z37 z37 rfl rf0.vals_one (by rw [show z37.length = 34 from rf0_ok.vlen]; exact info37) rfl (.tmp 27) (.tmp 237) rfl rfl rfl (fun w5 hb5 => ?_)
  have HB5 := Lib.hid hb5
  have HT5 := Lib.hid ((HT3.out.trans HB4.out.turn (fun _ _ => id)).trans hb5.turn (fun _ _ => id))
  have hs34 := HB4.out.size
  obtain ⟨X, hX⟩ : ∃ X, w3.heap.size = X := ⟨_, rfl⟩
  obtain ⟨Y, hY⟩ : ∃ Y, w4.heap.size = Y := ⟨_, rfl⟩
  have hXY : X < Y := by omega
  have HX5 := Lib.hid (show w5.rangeAt X 0 x.vals from by rw [← hX]; exact rangeAt_turn HB4.out.range hb5.turn id)
  have HY5 := Lib.hid (show w5.heap[Y]? = some (.cells rf0.vals.toArray 37 (0, 0)) from by rw [← hY]; exact hb5.heap)
  have HWX := Lib.hid (show w.heap.size ≤ X from by rw [← hX]; exact HT3.out.size)
  rw [hX, hY]
  clear hb5 hz hX hY hs34
  go_wp2_with fail
  go_loopw [28] (fun iv wr => ∃ k : Nat, k ≤ n ∧ iv = .int .i64 (k : Int) ∧ wr.heap[Y]? = some (.cells (thR s rf0 (l'.take k)).vals.toArray 37 (0, 0)) ∧ wr.rangeAt X 0 x.vals ∧ Turn (fun _ => False) w wr) (fun iv _ => n - (intOf iv).toNat)
  case atStart => exact ⟨0, by omega, rfl, HY5.out, HX5.out, HT5.out⟩
  case round =>
    clear HY5 HX5 HT5 HB4 HB5
    obtain ⟨k, hk, rfl, hY, hXr, htr⟩ := hrel
    have HY := Lib.hid hY
    have HXr := Lib.hid hXr
    have HTr := Lib.hid htr
    clear hY hXr htr
    by_cases hlt : k < n
    · have hkl : k < l'.length := by rw [HN.out]; exact hlt
      obtain ⟨g1, o1, e1, hc1, hs1⟩ : ∃ g o, la = some ⟨g, o, none⟩ ∧ n ≤ lc ∧ wr.rangeAt g (o + k * 34) (l'.getD k rf0).vals := by
        rcases (HV.out.turn HTr.out (fun _ _ => id)).at_ with ⟨c, h, h0⟩ | ⟨g, o, c, h, h3, _, h4⟩
        · rw [h0] at hkl; simp at hkl
        · injection h with q1 q2 q3
          exact ⟨g, o, q1, by rw [q3, ← HN.out]; exact h3, h4 k hkl⟩
      subst e1
      have hyok := getOk HV.out.ok k hkl
      have hsc := thR_succ s rf0 l' k hkl
      have htok := thR_ok s (l'.take k) rf0 rf0_ok (fun q hq => HV.out.ok q (List.mem_of_mem_take hq))
      have hd1 : decide ((k : Int) < (n : Int)) = true := decide_eq_true (by omega)
      have gk : (0 : Int) ≤ (k : Int) ∧ (k : Int) < (n : Int) := by omega
      have hwk : IntKind.i64.wrap ((k : Int) + 1) = (k : Int) + 1 := by rw [IntKind.wrap_i64]; omega
      generalize hye : l'.getD k rf0 = y at *
      generalize hte : thR s rf0 (l'.take k) = th at *
      have HSC := Lib.hid hsc
      have c1 : wr.cell? ⟨g1, o1 + k * 34, none⟩ = some (.string y.name) := by have := hs1 0 _ y.v0; simpa using this
      have hq := name_eq y.name s
      clear hye hte hsc
      by_cases he : y.name = s
      · have hq2 : (y.name.toList == s.toList) = true := by rw [hq]; exact decide_eq_true he
        rw [if_pos he] at HSC
        have het : y.name.toList = s.toList := by rw [he]
        clear hq
        go_wp2_with (with_reducible (show wpList _ _ _ (Oper.mk (some 254) (.load 37 (.tmp 253)) _ _ _ _ :: _) _ _); refine still ?_)
        refine wpList_load_mid rfl 37 (.tmp 253) rfl g1 (o1 + k * 34) (by first | rfl | simp) y.vals _ hs1 Tryd.underlying37 rfl (by rw [hyok.vlen]; exact info37) ?_
        go_wp2_with (with_reducible (show wpList _ _ _ (Oper.mk none (.store 37 (.tmp 27) (.tmp 254)) _ _ _ _ :: _) _ _); refine still ?_)
        refine wpList_store_mid rfl 37 (.tmp 27) (.tmp 254) rfl Y 0 y.vals.toArray rfl rfl (by simpa [hyok.vlen] using rf_there htok HY.out) (info37v hyok) (all_oneCell_toArray y.vals_one) ?_
        have tS := turn_setCells Y y.vals 0 wr
        have hNh := heap_setCells Y 37 y.vals 0 wr th.vals HY.out (by rw [hyok.vlen, htok.vlen]; omega)
        have hNv : th.vals.take 0 ++ y.vals ++ th.vals.drop (0 + y.vals.length) = y.vals := by rw [hyok.vlen, List.drop_of_length_le (by rw [htok.vlen]; omega)]; simp
        rw [hNv] at hNh
        rw [show y.vals.toArray.toList = y.vals from rfl]
        generalize wr.setCells Y 0 y.vals = w6 at *
        have HNH := Lib.hid hNh
        have HX6 := Lib.hid (show w6.rangeAt X 0 x.vals from rangeAt_turn HXr.out tS (fun e => by omega))
        have HT6 := Lib.hid (HTr.out.trans tS (fun q hq e => by have := HWX.out; omega))
        clear hNh tS hNv hs1 c1
        go_wp2_with fail
        go_roundw
        case rel => exact ⟨k + 1, by omega, by go_num, by rw [HSC.out]; exact HNH.out, HX6.out, HT6.out⟩
        case measure => simp [intOf]; omega
      · have hq2 : (y.name.toList == s.toList) = false := by rw [hq]; exact decide_eq_false he
        rw [if_neg he] at HSC
        have het : ¬ y.name.toList = s.toList := fun e9 => he (toList_inj e9)
        clear hq hs1
        go_wp2_with fail
        go_roundw
        case rel => exact ⟨k + 1, by omega, by go_num, by rw [HSC.out]; exact HY.out, HXr.out, HTr.out⟩
        case measure => simp [intOf]; omega
    · obtain rfl : k = n := by omega
      have hd1 : decide ((k : Int) < (k : Int)) = false := decide_eq_false (by omega)
      have hYx : wr.rangeAt Y 0 x.vals := fun j v hj => by
        have h9 := HY.out
        rw [List.take_of_length_le (by rw [HN.out]; exact Nat.le_refl _), HTH.out] at h9
        rw [Nat.zero_add, cell_of_row _ _ j _ 37 (0, 0) h9]
        simpa using hj
      have cN : wr.cell? ⟨Y, 0, none⟩ = some (.string x.name) := by have := hYx 0 _ x.v0; simpa using this
      go_wp2_with (with_reducible (show wpList _ _ _ (Oper.mk (some 255) (.load 37 (.tmp 25)) _ _ _ _ :: _) _ _); refine still ?_)
      refine wpList_load_mid rfl 37 (.tmp 25) rfl X 0 rfl x.vals _ HXr.out Tryd.underlying37 rfl (by rw [hxok.vlen]; exact info37) ?_
      go_wp2_with (with_reducible (show wpList _ _ _ (Oper.mk (some 256) (.load 37 (.tmp 27)) _ _ _ _ :: _) _ _); refine still ?_)
      refine wpList_load_mid rfl 37 (.tmp 27) rfl Y 0 rfl x.vals _ hYx Tryd.underlying37 rfl (by rw [hxok.vlen]; exact info37) ?_
      go_wp2_with (with_reducible (show wpList _ _ _ (Oper.mk (some 257) (.binOp .neq 37 _ _ 37) _ _ _ _ :: _) _ _); refine still ?_)
      refine list_exec rfl _ _ (exec_neq_rf _ _ rfl x x _ rfl rfl hxok hxok) ?_
      rw [decide_eq_true rfl]
      rcases HRR.out with ⟨rfl, hne⟩ | ⟨rfl, rfl⟩
      · have e1 : ¬ x.name.toList = [] := fun h9 => hne (toList_inj (h9.trans ((toList_nil _).2 rfl).symm))
        have e2 : x.name.toList.isEmpty = false := by simpa using e1
        clear hYx
        go_wp2_with fail
        exact HA.out _ _ _ _ _ _ _ _ _ _ _ _ _ _ _ _ _ _ _ _ _ _ _ _ _ _ _ _ _ _ _ _ _ _ _ _ _ _ _ _ _ _ _ _ _ _ _ _ _ _ _ _ _ _ _ _ _ _ _ _ _ _ _ _ _ _ _ _ _ _ _ _ _ _ _ _ _ _ _ _ _ _ _ _ _ _ _ _ _ _ _ _ _ _ _ _ _ _ _ _ _ _ _ _ _ _ _ _ _ _ _ _ _ _ _ _ _ _ _ _ _ _ _ _ _ _ _ _ _ _ _ _ _ _ _ _ _ _ _ _ _ _ _ _ _ _ _ _ _ _ _ _ _ _ _ _ _ _ _ _ _ _ _ _ _ _ _ _ _ _ _ _ _ _ _ _ _ _ _ _ _ _ _ _ _ _ _ _ _ _ _ _ _ _ _ _ _ _ _ _ _ _ _ _ _ _ _ _ _ _ _ _ _ _ _ _ _ _ _ _ _ _ _ _ _ _ _ _ _ _ _ _ _ _ _ _ _ _ _ _ _ _ _ _ _ _ _ _ _ _ _ _ _ _ _ _ _ _ _ _ HTr.out
      · have e1 : rf0.name.toList = [] := (toList_nil _).2 rfl
        clear hYx
        go_wp2_with fail
        exact HA.out _ _ _ _ _ _ _ _ _ _ _ _ _ _ _ _ _ _ _ _ _ _ _ _ _ _ _ _ _ _ _ _ _ _ _ _ _ _ _ _ _ _ _ _ _ _ _ _ _ _ _ _ _ _ _ _ _ _ _ _ _ _ _ _ _ _ _ _ _ _ _ _ _ _ _ _ _ _ _ _ _ _ _ _ _ _ _ _ _ _ _ _ _ _ _ _ _ _ _ _ _ _ _ _ _ _ _ _ _ _ _ _ _ _ _ _ _ _ _ _ _ _ _ _ _ _ _ _ _ _ _ _ _ _ _ _ _ _ _ _ _ _ _ _ _ _ _ _ _ _ _ _ _ _ _ _ _ _ _ _ _ _ _ _ _ _ _ _ _ _ _ _ _ _ _ _ _ _ _ _ _ _ _ _ _ _ _ _ _ _ _ _ _ _ _ _ _ _ _ _ _ _ _ _ _ _ _ _ _ _ _ _ _ _ _ _ _ _ _ _ _ _ _ _ _ _ _ _ _ _ _ _ _ _ _ _ _ _ _ _ _ _ _ _ _ _ _ _ _ _ _ _ _ _ _ _ _ _ _ _ HTr.out
end Go.Proofs.YtnenkclihgeacaaDoor
