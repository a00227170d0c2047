/- Own: a loop of DiskPlays. No statement is proved here. -/
import Derived.Test.YtckeackepolhdaaPlayF
namespace Go.Proofs.Ytckeackepolhdaa
open Go.RowKit
set_option linter.unusedVariables false
set_option linter.unusedSimpArgs false

/-- A slice value that tells these 64 bytes, in a block of R. -/
def Told (w : World) (R : Nat → Prop) (v : Value) (xs : List Int) : Prop := ∃ g c, v = .slice (some ⟨g, 0, none⟩) 64 c ∧ 64 ≤ c ∧ R g ∧ g < w.heap.size ∧ w.rangeAt g 0 (secV xs)
theorem Told.turn {w w' : World} {R S : Nat → Prop} {v : Value} {xs : List Int} (h : Told w R v xs) (ht : Turn S w w') (hn : ∀ q, R q → q < w.heap.size → ¬ S q) : Told w' R v xs := by
  obtain ⟨g, c, rfl, hc, hR, hg, hr⟩ := h
  exact ⟨g, c, rfl, hc, hR, Nat.lt_of_lt_of_le hg ht.size, rangeAt_turn hr ht (hn g hR hg)⟩
theorem run_make64 (w : World) : (Instr.makeSlice 27 (.int .i64 64) (.int .i64 64)).run Try.prog w = .ok (.slice (some ⟨w.heap.size, 0, none⟩) 64 64) (w.alloc (.cells (secV noughts).toArray 5)) := by
  obtain ⟨i0, hi, hz0, hz1, hz2⟩ := info_parts Try.info5
  have h := run_make (P := Try.prog) w 27 5 i0 _ Try.underlying27 hi hz0 .i64 .i64 64 64 (by omega) (by omega) (by rw [hz2]; decide) (by omega)
  have e : madeCells (Value.int .u8 0).cells (Int.toNat 64 * 1) = (secV noughts).toArray := by kernel_rfl
  rw [h, hz1, e]
  rfl

set_option maxHeartbeats 4000000 in
set_option maxRecDepth 1000000 in
theorem plays_make (k sc SB : Nat) (vs0 : List Value) (c0 c1 c2 c3 c4 c6 c9 c10 c11 c12 c13 c14 c15 c16 c17 c18 c19 c20 c21 c22 c23 c24 c25 c26 c27 c28 c29 c30 c31 c32 c33 c34 c35 c36 c37 c38 c39 c40 c41 c42 c43 c44 c45 c46 c47 c48 c49 c50 c51 c52 c53 c54 c55 c56 c57 c58 c59 c60 c61 c62 c63 c64 c65 c66 c67 c68 c69 c70 c71 c72 c73 c74 c75 c76 c77 c78 c79 c80 c81 c82 c83 c84 c85 c86 c87 c88 c89 c90 c91 c92 c93 c94 c95 c96 c97 c98 c99 c100 c101 c102 c103 c104 c105 c106 c107 c108 c109 c110 c111 c112 c113 c114 c115 c116 c117 c118 c119 c120 c121 c122 c123 c124 c125 c126 c127 c128 c129 c130 c131 c132 c133 c134 c135 c136 c137 c138 c139 c140 c141 c142 c143 c144 c145 c146 c147 c148 c149 c150 c151 c152 c153 c154 c155 c156 c157 c158 c159 c160 c161 c162 c163 c164 c165 c166 c167 c168 c169 c170 c171 c172 c173 c174 c175 c176 c177 c178 c179 c180 c181 c182 c183 c184 c185 c186 c187 c188 c189 c190 c191 c192 c193 c194 c195 c196 c197 c198 c199 c200 c201 c202 c203 c204 c205 c206 c207 c208 c209 c210 c211 c212 c213 c214 c215 c216 c217 c218 c219 c220 c221 c222 c223 c224 c225 c226 c227 c228 c229 c230 c231 c232 c233 c234 c235 c236 c237 c238 c239 c240 c241 c242 c243 c244 c245 c246 c247 c248 c249 c250 c251 c252 c253 c254 c255 c256 c257 c258 c259 c260 c261 c262 c263 c264 c265 c266 c267 c268 c269 c270 c271 c272 c273 c274 c275 c276 c277 c278 c279 c280 c281 c282 c283 c284 c285 c286 c287 c288 c289 c290 c291 c292 c293 c294 c295 c296 c297 c298 c299 c300 c301 c302 c303 c304 : Value) (w : World) (Q0 : Exit → Act → World → Prop)
    (hk : k ≤ 1000) (hvs : ValsIn w SB 27 vs0) (hvl : vs0.length = k)
    (hexit : ∀ (u8 u40 u41 u42 u43 u44 u45 u46 u47 u48 : Value) (vs : List Value) (w' : World), vs.length = k → ValsIn w' SB 27 vs → (∀ i, i < k → Told w' (fun q => w.heap.size ≤ q) (vs.getD i undef) noughts) → Turn (fun q => q = SB) w w' → Q0 (.exit 0) ⟨List.toArray (c0 :: c1 :: c2 :: c3 :: c4 :: (.int .i64 (k : Int)) :: c6 :: (.slice (some ⟨SB, 0, none⟩) k sc) :: u8 :: c9 :: c10 :: c11 :: c12 :: c13 :: c14 :: c15 :: c16 :: c17 :: c18 :: c19 :: c20 :: c21 :: c22 :: c23 :: c24 :: c25 :: c26 :: c27 :: c28 :: c29 :: c30 :: c31 :: c32 :: c33 :: c34 :: c35 :: c36 :: c37 :: c38 :: c39 :: u40 :: u41 :: u42 :: u43 :: u44 :: u45 :: u46 :: u47 :: u48 :: c49 :: c50 :: c51 :: c52 :: c53 :: c54 :: c55 :: c56 :: c57 :: c58 :: c59 :: c60 :: c61 :: c62 :: c63 :: c64 :: c65 :: c66 :: c67 :: c68 :: c69 :: c70 :: c71 :: c72 :: c73 :: c74 :: c75 :: c76 :: c77 :: c78 :: c79 :: c80 :: c81 :: c82 :: c83 :: c84 :: c85 :: c86 :: c87 :: c88 :: c89 :: c90 :: c91 :: c92 :: c93 :: c94 :: c95 :: c96 :: c97 :: c98 :: c99 :: c100 :: c101 :: c102 :: c103 :: c104 :: c105 :: c106 :: c107 :: c108 :: c109 :: c110 :: c111 :: c112 :: c113 :: c114 :: c115 :: c116 :: c117 :: c118 :: c119 :: c120 :: c121 :: c122 :: c123 :: c124 :: c125 :: c126 :: c127 :: c128 :: c129 :: c130 :: c131 :: c132 :: c133 :: c134 :: c135 :: c136 :: c137 :: c138 :: c139 :: c140 :: c141 :: c142 :: c143 :: c144 :: c145 :: c146 :: c147 :: c148 :: c149 :: c150 :: c151 :: c152 :: c153 :: c154 :: c155 :: c156 :: c157 :: c158 :: c159 :: c160 :: c161 :: c162 :: c163 :: c164 :: c165 :: c166 :: c167 :: c168 :: c169 :: c170 :: c171 :: c172 :: c173 :: c174 :: c175 :: c176 :: c177 :: c178 :: c179 :: c180 :: c181 :: c182 :: c183 :: c184 :: c185 :: c186 :: c187 :: c188 :: c189 :: c190 :: c191 :: c192 :: c193 :: c194 :: c195 :: c196 :: c197 :: c198 :: c199 :: c200 :: c201 :: c202 :: c203 :: c204 :: c205 :: c206 :: c207 :: c208 :: c209 :: c210 :: c211 :: c212 :: c213 :: c214 :: c215 :: c216 :: c217 :: c218 :: c219 :: c220 :: c221 :: c222 :: c223 :: c224 :: c225 :: c226 :: c227 :: c228 :: c229 :: c230 :: c231 :: c232 :: c233 :: c234 :: c235 :: c236 :: c237 :: c238 :: c239 :: c240 :: c241 :: c242 :: c243 :: c244 :: c245 :: c246 :: c247 :: c248 :: c249 :: c250 :: c251 :: c252 :: c253 :: c254 :: c255 :: c256 :: c257 :: c258 :: c259 :: c260 :: c261 :: c262 :: c263 :: c264 :: c265 :: c266 :: c267 :: c268 :: c269 :: c270 :: c271 :: c272 :: c273 :: c274 :: c275 :: c276 :: c277 :: c278 :: c279 :: c280 :: c281 :: c282 :: c283 :: c284 :: c285 :: c286 :: c287 :: c288 :: c289 :: c290 :: c291 :: c292 :: c293 :: c294 :: c295 :: c296 :: c297 :: c298 :: c299 :: c300 :: c301 :: c302 :: c303 :: c304 :: []), []⟩ w') :
    Code.wp Try.prog (.loop (playBody 0)) Q0 ⟨List.toArray (c0 :: c1 :: c2 :: c3 :: c4 :: (.int .i64 (k : Int)) :: c6 :: (.slice (some ⟨SB, 0, none⟩) k sc) :: (.int .i64 0) :: c9 :: c10 :: c11 :: c12 :: c13 :: c14 :: c15 :: c16 :: c17 :: c18 :: c19 :: c20 :: c21 :: c22 :: c23 :: c24 :: c25 :: c26 :: c27 :: c28 :: c29 :: c30 :: c31 :: c32 :: c33 :: c34 :: c35 :: c36 :: c37 :: c38 :: c39 :: c40 :: c41 :: c42 :: c43 :: c44 :: c45 :: c46 :: c47 :: c48 :: c49 :: c50 :: c51 :: c52 :: c53 :: c54 :: c55 :: c56 :: c57 :: c58 :: c59 :: c60 :: c61 :: c62 :: c63 :: c64 :: c65 :: c66 :: c67 :: c68 :: c69 :: c70 :: c71 :: c72 :: c73 :: c74 :: c75 :: c76 :: c77 :: c78 :: c79 :: c80 :: c81 :: c82 :: c83 :: c84 :: c85 :: c86 :: c87 :: c88 :: c89 :: c90 :: c91 :: c92 :: c93 :: c94 :: c95 :: c96 :: c97 :: c98 :: c99 :: c100 :: c101 :: c102 :: c103 :: c104 :: c105 :: c106 :: c107 :: c108 :: c109 :: c110 :: c111 :: c112 :: c113 :: c114 :: c115 :: c116 :: c117 :: c118 :: c119 :: c120 :: c121 :: c122 :: c123 :: c124 :: c125 :: c126 :: c127 :: c128 :: c129 :: c130 :: c131 :: c132 :: c133 :: c134 :: c135 :: c136 :: c137 :: c138 :: c139 :: c140 :: c141 :: c142 :: c143 :: c144 :: c145 :: c146 :: c147 :: c148 :: c149 :: c150 :: c151 :: c152 :: c153 :: c154 :: c155 :: c156 :: c157 :: c158 :: c159 :: c160 :: c161 :: c162 :: c163 :: c164 :: c165 :: c166 :: c167 :: c168 :: c169 :: c170 :: c171 :: c172 :: c173 :: c174 :: c175 :: c176 :: c177 :: c178 :: c179 :: c180 :: c181 :: c182 :: c183 :: c184 :: c185 :: c186 :: c187 :: c188 :: c189 :: c190 :: c191 :: c192 :: c193 :: c194 :: c195 :: c196 :: c197 :: c198 :: c199 :: c200 :: c201 :: c202 :: c203 :: c204 :: c205 :: c206 :: c207 :: c208 :: c209 :: c210 :: c211 :: c212 :: c213 :: c214 :: c215 :: c216 :: c217 :: c218 :: c219 :: c220 :: c221 :: c222 :: c223 :: c224 :: c225 :: c226 :: c227 :: c228 :: c229 :: c230 :: c231 :: c232 :: c233 :: c234 :: c235 :: c236 :: c237 :: c238 :: c239 :: c240 :: c241 :: c242 :: c243 :: c244 :: c245 :: c246 :: c247 :: c248 :: c249 :: c250 :: c251 :: c252 :: c253 :: c254 :: c255 :: c256 :: c257 :: c258 :: c259 :: c260 :: c261 :: c262 :: c263 :: c264 :: c265 :: c266 :: c267 :: c268 :: c269 :: c270 :: c271 :: c272 :: c273 :: c274 :: c275 :: c276 :: c277 :: c278 :: c279 :: c280 :: c281 :: c282 :: c283 :: c284 :: c285 :: c286 :: c287 :: c288 :: c289 :: c290 :: c291 :: c292 :: c293 :: c294 :: c295 :: c296 :: c297 :: c298 :: c299 :: c300 :: c301 :: c302 :: c303 :: c304 :: []), []⟩ w := by
  have HE := Lib.hid hexit
  have hSB := hvs.lt
  clear hexit
  conv => arg 2; arg 1; whnf
  go_loopw [8] (fun iv wr => ∃ (i : Nat) (vs : List Value), i ≤ k ∧ iv = .int .i64 (i : Int) ∧ vs.length = k ∧ ValsIn wr SB 27 vs ∧ (∀ j, j < i → Told wr (fun q => w.heap.size ≤ q) (vs.getD j undef) noughts) ∧ Turn (fun q => q = SB) w wr) (fun iv _ => k - (intOf iv).toNat)
  case atStart => exact ⟨0, vs0, by omega, rfl, hvl, hvs, fun j hj => by omega, Turn.refl _ w⟩
  case round =>
    clear hvs hvl
    obtain ⟨i, vs, hi, rfl, hvl, hV, hTo, hT⟩ := hrel
    have HVL := Lib.hid hvl
    have HTO := Lib.hid hTo
    by_cases hlt : i < k
    · have hsz := hT.size
      have hmk := run_make64 wr
      have t1 : Turn (fun _ => False) wr (wr.alloc (.cells (secV noughts).toArray 5)) := (Turn.refl _ wr).alloc _
      have hb1 : (wr.alloc (.cells (secV noughts).toArray 5)).heap[wr.heap.size]? = some (.cells (secV noughts).toArray 5) := heap_alloc_new wr _
      obtain ⟨w1, hw1⟩ : ∃ w1, wr.alloc (.cells (secV noughts).toArray 5) = w1 := ⟨_, rfl⟩
      rw [hw1] at hmk t1 hb1
      have hlt1 : wr.heap.size < w1.heap.size := (Array.getElem?_eq_some_iff.1 hb1).1
      have hSlt : SB < wr.heap.size := hV.lt
      have hr1 : w1.rangeAt wr.heap.size 0 (secV noughts) := fun j v hj => by rw [Nat.zero_add, cell_of_row _ _ _ _ 5 (0, 0) hb1]; simpa using hj
      have hV1 := hV.turn t1 id
      have c3 := hV1.cell i (by omega)
      have f3 := hV1.open_ i
      have hV2 := hV1.set i (.slice (some ⟨wr.heap.size, 0, none⟩) 64 64)
      have t2 : Turn (fun q => q = SB) w1 (w1.setCell ⟨SB, i, none⟩ (.slice (some ⟨wr.heap.size, 0, none⟩) 64 64)) := turn_cell w1 SB i _
      have T2 := Lib.hid ((hT.trans t1 (fun _ _ h => h.elim)).trans t2 (fun _ _ h => h))
      have hTold : ∀ j, j < i + 1 → Told (w1.setCell ⟨SB, i, none⟩ (.slice (some ⟨wr.heap.size, 0, none⟩) 64 64)) (fun q => w.heap.size ≤ q) ((vs.set i (.slice (some ⟨wr.heap.size, 0, none⟩) 64 64)).getD j undef) noughts := fun j hj => by
        by_cases hji : j = i
        · subst hji
          have e : (vs.set j (.slice (some ⟨wr.heap.size, 0, none⟩) 64 64)).getD j undef = .slice (some ⟨wr.heap.size, 0, none⟩) 64 64 := by simp [List.getD, show j < vs.length by omega]
          rw [e]
          exact ⟨_, _, rfl, Nat.le_refl _, hsz, Nat.lt_of_lt_of_le hlt1 t2.size, rangeAt_turn hr1 t2 (by omega)⟩
        · have e : (vs.set i (.slice (some ⟨wr.heap.size, 0, none⟩) 64 64)).getD j undef = vs.getD j undef := by simp [List.getD, List.getElem?_set_ne (Ne.symm hji)]
          rw [e]
          exact ((HTO.out j (by omega)).turn t1 (fun _ _ _ => id)).turn t2 (fun q hq _ e => by omega)
      have HTOLD := Lib.hid hTold
      have HV2 := Lib.hid hV2
      generalize vs.getD i undef = old at c3
      have gm : 0 ≤ (i : Int) ∧ (i : Int) < (k : Int) := by omega
      have dl : decide ((i : Int) < (k : Int)) = true := by simp; omega
      clear hTo hT hV hV1 hV2 hTold t1 t2 hr1 hb1 hvl hw1
      go_wp2_with fail
      exact ⟨⟨i + 1, vs.set i (.slice (some ⟨wr.heap.size, 0, none⟩) 64 64), by omega, by go_num, by simpa using HVL.out, HV2.out, HTOLD.out, T2.out⟩, by simp [intOf]; omega⟩
    · have dl : decide ((i : Int) < (k : Int)) = false := by simp; omega
      have dl2 : decide (i < k) = false := by simp; omega
      have dl3 : ¬ i < k := hlt
      have hik : i = k := by omega
      rw [hik] at HTO
      have HV := Lib.hid hV
      have HT := Lib.hid hT
      clear hV hT hik hTo hvl
      go_wp2_with fail
      exact HE.out _ _ _ _ _ _ _ _ _ _ _ _ HVL.out HV.out HTO.out HT.out
end Go.Proofs.Ytckeackepolhdaa
