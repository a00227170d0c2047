/- Own: a loop of DiskPlays. No statement is proved here. -/
import Derived.Test.YtckeackepolhdaaPlayW
namespace Go.Proofs.Ytckeackepolhdaa
open Go.RowKit
set_option linter.unusedVariables false
set_option linter.unusedSimpArgs false

/-- A block of memory that holds just these values. -/
def ValsIn (w : World) (B : Nat) (t : TypeId) (vs : List Value) : Prop := w.heap[B]? = some (.cells vs.toArray t (0, 0))
theorem ValsIn.cell {w : World} {B : Nat} {t : TypeId} {vs : List Value} (h : ValsIn w B t vs) (i : Nat) (hi : i < vs.length) : w.cell? ⟨B, i, none⟩ = some (vs.getD i undef) := by
  rw [cell_of_row w B i _ t (0, 0) h]
  simp [List.getD, hi]
theorem ValsIn.open_ {w : World} {B : Nat} {t : TypeId} {vs : List Value} (h : ValsIn w B t vs) (i : Nat) : w.frozen? ⟨B, i, none⟩ = false := frozen_of_row w B i _ t h
theorem ValsIn.lt {w : World} {B : Nat} {t : TypeId} {vs : List Value} (h : ValsIn w B t vs) : B < w.heap.size := (Array.getElem?_eq_some_iff.1 h).1
theorem ValsIn.set {w : World} {B : Nat} {t : TypeId} {vs : List Value} (h : ValsIn w B t vs) (i : Nat) (v : Value) : ValsIn (w.setCell ⟨B, i, none⟩ v) B t (vs.set i v) := by
  unfold ValsIn
  rw [heap_setCell_same w B i _ t _ h]
  simp
theorem ValsIn.turn {w w' : World} {B : Nat} {t : TypeId} {vs : List Value} {S : Nat → Prop} (h : ValsIn w B t vs) (ht : Turn S w w') (hB : ¬ S B) : ValsIn w' B t vs := (ht.block B h.lt hB).trans h
/-- What is safe after the first j writes have been put. -/
def putV (vs : List Value) (ks : List Nat) (us : List Value) : Nat → List Value
  | 0 => vs
  | j + 1 => (putV vs ks us j).set (ks.getD j 0) (us.getD j undef)
theorem putV_len (vs : List Value) (ks : List Nat) (us : List Value) (j : Nat) : (putV vs ks us j).length = vs.length := by
  induction j with
  | zero => rfl
  | succ j ih => simp [putV, ih]

set_option maxHeartbeats 4000000 in
set_option maxRecDepth 1000000 in
theorem plays_flush (aa aw : Option Addr) (n ca cw k sc SB : Nat) (ks : List Nat) (us vs : List Value) (c0 c1 c2 c3 c4 c5 c6 c8 c11 c13 c14 c15 c16 c18 c19 c20 c21 c22 c23 c24 c25 c26 c27 c28 c29 c30 c31 c32 c33 c34 c35 c36 c37 c38 c39 c40 c41 c42 c43 c44 c45 c46 c47 c48 c49 c50 c51 c52 c53 c54 c55 c56 c57 c58 c59 c60 c61 c62 c63 c64 c65 c66 c67 c68 c69 c70 c71 c72 c73 c74 c75 c76 c77 c78 c79 c80 c81 c82 c83 c84 c85 c86 c87 c88 c89 c90 c91 c92 c93 c94 c95 c96 c97 c98 c99 c100 c101 c102 c103 c104 c105 c106 c107 c108 c109 c110 c111 c112 c113 c114 c115 c116 c117 c118 c119 c120 c121 c122 c123 c124 c125 c126 c127 c128 c129 c130 c131 c132 c133 c134 c135 c136 c137 c138 c139 c140 c141 c142 c143 c144 c145 c146 c147 c148 c149 c150 c151 c152 c153 c154 c155 c156 c157 c158 c159 c160 c161 c162 c163 c164 c165 c166 c167 c168 c169 c170 c171 c172 c173 c174 c175 c176 c177 c178 c179 c180 c181 c182 c183 c184 c185 c186 c187 c188 c189 c190 c191 c192 c193 c194 c195 c196 c197 c198 c199 c200 c201 c202 c203 c204 c205 c206 c207 c208 c209 c210 c211 c212 c213 c214 c215 c216 c217 c218 c219 c220 c221 c222 c223 c224 c225 c226 c227 c228 c229 c230 c231 c232 c233 c234 c235 c236 c237 c238 c239 c240 c241 c242 c243 c244 c245 c246 c247 c248 c249 c250 c251 c252 c253 c254 c255 c256 c257 c258 c259 c260 c261 c262 c263 c264 c265 c266 c267 c268 c269 c270 c271 c272 c273 c274 c275 c276 c277 c278 c279 c280 c281 c282 c283 c284 c285 c286 c287 c288 c289 c290 c291 c292 c293 c294 c295 c296 c297 c298 c299 c300 c301 c302 c303 c304 : Value) (w : World) (Q0 : Exit → Act → World → Prop)
    (hn : n ≤ 1000) (hk : k ≤ 1000) (hat : NumsAt w aa n ks) (hwet : ValsAt w aw n us) (hus : ∀ j, j < n → ∃ a l c, us.getD j undef = .slice a l c)
    (hks : ∀ j, j < n → ks.getD j 0 < k) (hna : ∀ g, aa = some ⟨g, 0, none⟩ → g ≠ SB) (hnw : ∀ g, aw = some ⟨g, 0, none⟩ → g ≠ SB) (hvs : ValsIn w SB 27 vs) (hvl : vs.length = k)
    (hexit : ∀ (u17 u155 u156 u157 u158 u159 u160 u161 u162 u163 u164 u165 u166 u167 u168 u169 u170 u171 u172 u173 u174 : Value) (w' : World), ValsIn w' SB 27 (putV vs ks us n) → Turn (fun q => q = SB) w w' → Q0 (.exit 5) ⟨List.toArray (c0 :: c1 :: c2 :: c3 :: c4 :: c5 :: c6 :: (.slice (some ⟨SB, 0, none⟩) k sc) :: c8 :: (.slice aa n ca) :: (.slice aw n cw) :: c11 :: (.bool false) :: c13 :: c14 :: c15 :: c16 :: u17 :: c18 :: c19 :: c20 :: c21 :: c22 :: c23 :: c24 :: c25 :: c26 :: c27 :: c28 :: c29 :: c30 :: c31 :: c32 :: c33 :: c34 :: c35 :: c36 :: c37 :: c38 :: c39 :: c40 :: c41 :: c42 :: c43 :: c44 :: c45 :: c46 :: c47 :: c48 :: c49 :: c50 :: c51 :: c52 :: c53 :: c54 :: c55 :: c56 :: c57 :: c58 :: c59 :: c60 :: c61 :: c62 :: c63 :: c64 :: c65 :: c66 :: c67 :: c68 :: c69 :: c70 :: c71 :: c72 :: c73 :: c74 :: c75 :: c76 :: c77 :: c78 :: c79 :: c80 :: c81 :: c82 :: c83 :: c84 :: c85 :: c86 :: c87 :: c88 :: c89 :: c90 :: c91 :: c92 :: c93 :: c94 :: c95 :: c96 :: c97 :: c98 :: c99 :: c100 :: c101 :: c102 :: c103 :: c104 :: c105 :: c106 :: c107 :: c108 :: c109 :: c110 :: c111 :: c112 :: c113 :: c114 :: c115 :: c116 :: c117 :: c118 :: c119 :: c120 :: c121 :: c122 :: c123 :: c124 :: c125 :: c126 :: c127 :: c128 :: c129 :: c130 :: c131 :: c132 :: c133 :: c134 :: c135 :: c136 :: c137 :: c138 :: c139 :: c140 :: c141 :: c142 :: c143 :: c144 :: c145 :: c146 :: c147 :: c148 :: c149 :: c150 :: c151 :: c152 :: c153 :: c154 :: u155 :: u156 :: u157 :: u158 :: u159 :: u160 :: u161 :: u162 :: u163 :: u164 :: u165 :: u166 :: u167 :: u168 :: u169 :: u170 :: u171 :: u172 :: u173 :: u174 :: c175 :: c176 :: c177 :: c178 :: c179 :: c180 :: c181 :: c182 :: c183 :: c184 :: c185 :: c186 :: c187 :: c188 :: c189 :: c190 :: c191 :: c192 :: c193 :: c194 :: c195 :: c196 :: c197 :: c198 :: c199 :: c200 :: c201 :: c202 :: c203 :: c204 :: c205 :: c206 :: c207 :: c208 :: c209 :: c210 :: c211 :: c212 :: c213 :: c214 :: c215 :: c216 :: c217 :: c218 :: c219 :: c220 :: c221 :: c222 :: c223 :: c224 :: c225 :: c226 :: c227 :: c228 :: c229 :: c230 :: c231 :: c232 :: c233 :: c234 :: c235 :: c236 :: c237 :: c238 :: c239 :: c240 :: c241 :: c242 :: c243 :: c244 :: c245 :: c246 :: c247 :: c248 :: c249 :: c250 :: c251 :: c252 :: c253 :: c254 :: c255 :: c256 :: c257 :: c258 :: c259 :: c260 :: c261 :: c262 :: c263 :: c264 :: c265 :: c266 :: c267 :: c268 :: c269 :: c270 :: c271 :: c272 :: c273 :: c274 :: c275 :: c276 :: c277 :: c278 :: c279 :: c280 :: c281 :: c282 :: c283 :: c284 :: c285 :: c286 :: c287 :: c288 :: c289 :: c290 :: c291 :: c292 :: c293 :: c294 :: c295 :: c296 :: c297 :: c298 :: c299 :: c300 :: c301 :: c302 :: c303 :: c304 :: []), []⟩ w') :
    Code.wp Try.prog (.loop (playBody 2)) Q0 ⟨List.toArray (c0 :: c1 :: c2 :: c3 :: c4 :: c5 :: c6 :: (.slice (some ⟨SB, 0, none⟩) k sc) :: c8 :: (.slice aa n ca) :: (.slice aw n cw) :: c11 :: (.bool false) :: c13 :: c14 :: c15 :: c16 :: (.int .i64 0) :: c18 :: c19 :: c20 :: c21 :: c22 :: c23 :: c24 :: c25 :: c26 :: c27 :: c28 :: c29 :: c30 :: c31 :: c32 :: c33 :: c34 :: c35 :: c36 :: c37 :: c38 :: c39 :: c40 :: c41 :: c42 :: c43 :: c44 :: c45 :: c46 :: c47 :: c48 :: c49 :: c50 :: c51 :: c52 :: c53 :: c54 :: c55 :: c56 :: c57 :: c58 :: c59 :: c60 :: c61 :: c62 :: c63 :: c64 :: c65 :: c66 :: c67 :: c68 :: c69 :: c70 :: c71 :: c72 :: c73 :: c74 :: c75 :: c76 :: c77 :: c78 :: c79 :: c80 :: c81 :: c82 :: c83 :: c84 :: c85 :: c86 :: c87 :: c88 :: c89 :: c90 :: c91 :: c92 :: c93 :: c94 :: c95 :: c96 :: c97 :: c98 :: c99 :: c100 :: c101 :: c102 :: c103 :: c104 :: c105 :: c106 :: c107 :: c108 :: c109 :: c110 :: c111 :: c112 :: c113 :: c114 :: c115 :: c116 :: c117 :: c118 :: c119 :: c120 :: c121 :: c122 :: c123 :: c124 :: c125 :: c126 :: c127 :: c128 :: c129 :: c130 :: c131 :: c132 :: c133 :: c134 :: c135 :: c136 :: c137 :: c138 :: c139 :: c140 :: c141 :: c142 :: c143 :: c144 :: c145 :: c146 :: c147 :: c148 :: c149 :: c150 :: c151 :: c152 :: c153 :: c154 :: c155 :: c156 :: c157 :: c158 :: c159 :: c160 :: c161 :: c162 :: c163 :: c164 :: c165 :: c166 :: c167 :: c168 :: c169 :: c170 :: c171 :: c172 :: c173 :: c174 :: c175 :: c176 :: c177 :: c178 :: c179 :: c180 :: c181 :: c182 :: c183 :: c184 :: c185 :: c186 :: c187 :: c188 :: c189 :: c190 :: c191 :: c192 :: c193 :: c194 :: c195 :: c196 :: c197 :: c198 :: c199 :: c200 :: c201 :: c202 :: c203 :: c204 :: c205 :: c206 :: c207 :: c208 :: c209 :: c210 :: c211 :: c212 :: c213 :: c214 :: c215 :: c216 :: c217 :: c218 :: c219 :: c220 :: c221 :: c222 :: c223 :: c224 :: c225 :: c226 :: c227 :: c228 :: c229 :: c230 :: c231 :: c232 :: c233 :: c234 :: c235 :: c236 :: c237 :: c238 :: c239 :: c240 :: c241 :: c242 :: c243 :: c244 :: c245 :: c246 :: c247 :: c248 :: c249 :: c250 :: c251 :: c252 :: c253 :: c254 :: c255 :: c256 :: c257 :: c258 :: c259 :: c260 :: c261 :: c262 :: c263 :: c264 :: c265 :: c266 :: c267 :: c268 :: c269 :: c270 :: c271 :: c272 :: c273 :: c274 :: c275 :: c276 :: c277 :: c278 :: c279 :: c280 :: c281 :: c282 :: c283 :: c284 :: c285 :: c286 :: c287 :: c288 :: c289 :: c290 :: c291 :: c292 :: c293 :: c294 :: c295 :: c296 :: c297 :: c298 :: c299 :: c300 :: c301 :: c302 :: c303 :: c304 :: []), []⟩ w := by
  have HE := Lib.hid hexit
  have HA := Lib.hid hat
  have HW := Lib.hid hwet
  have HU := Lib.hid hus
  have HK := Lib.hid hks
  have HNA := Lib.hid hna
  have HNW := Lib.hid hnw
  have HVL := Lib.hid hvl
  clear hexit hat hwet hus hks hna hnw hvl
  conv => arg 2; arg 1; whnf
  go_loopw [17] (fun jv wr => ∃ (j : Nat), j ≤ n ∧ jv = .int .i64 (j : Int) ∧ ValsIn wr SB 27 (putV vs ks us j) ∧ Turn (fun q => q = SB) w wr) (fun jv _ => n - (intOf jv).toNat)
  case atStart => exact ⟨0, by omega, rfl, hvs, Turn.refl _ w⟩
  case round =>
    clear hvs
    obtain ⟨j, hj, rfl, hV, hT⟩ := hrel
    by_cases hlt : j < n
    · obtain ⟨ga, rfl, hca⟩ := HA.out (by omega)
      obtain ⟨gw, rfl, hcw⟩ := HW.out (by omega)
      have hkk := HK.out j hlt
      have c1 := (hT.cell (p := ⟨ga, j, none⟩) (World.block_lt_of_cell? w _ (hca j hlt)) (HNA.out ga rfl)).trans (hca j hlt)
      have c2 := (hT.cell (p := ⟨gw, j, none⟩) (World.block_lt_of_cell? w _ (hcw j hlt)) (HNW.out gw rfl)).trans (hcw j hlt)
      have c3 := hV.cell (ks.getD j 0) (by rw [putV_len, HVL.out]; exact hkk)
      have f3 := hV.open_ (ks.getD j 0)
      have hV2 := hV.set (ks.getD j 0) (us.getD j undef)
      have t2 := hT.setCell (p := ⟨SB, ks.getD j 0, none⟩) (fun _ => rfl) (us.getD j undef)
      obtain ⟨ua, ul, uc, hu⟩ := HU.out j hlt
      have HP := Lib.hid (show putV vs ks us (j + 1) = (putV vs ks us j).set (ks.getD j 0) (us.getD j undef) from rfl)
      rw [hu] at c2 hV2 t2 HP
      generalize (putV vs ks us j).getD (ks.getD j 0) undef = old at c3
      generalize ks.getD j 0 = kk at c1 c3 f3 hV2 t2 HP hkk
      have HV2 := Lib.hid hV2
      have T2 := Lib.hid t2
      have gm : 0 ≤ (j : Int) ∧ (j : Int) < (n : Int) := by omega
      have gk : 0 ≤ (kk : Int) ∧ (kk : Int) < (k : Int) := by omega
      have dl : decide ((j : Int) < (n : Int)) = true := by simp; omega
      have c1' : wr.drew.cell? ⟨ga, j, none⟩ = some (.int .i64 (kk : Int)) := c1
      have c2' : wr.drew.cell? ⟨gw, j, none⟩ = some (.slice ua ul uc) := c2
      have c3' : wr.drew.cell? ⟨SB, kk, none⟩ = some old := c3
      have f3' : wr.drew.frozen? ⟨SB, kk, none⟩ = false := f3
      clear hca hcw hu hV hV2 t2 hT
      go_wp2_with fail
      go_region
      go_wp2_with fail
      go_roundw
      case rel => exact ⟨j + 1, by omega, by go_num, by rw [HP.out]; exact HV2.out, T2.out.drew⟩
      case measure => simp [intOf]; omega
    · have dl : decide ((j : Int) < (n : Int)) = false := by simp; omega
      have dl2 : decide (j < n) = false := by simp; omega
      have dl3 : ¬ j < n := hlt
      have hjn : j = n := by omega
      rw [hjn] at hV
      have HV := Lib.hid hV
      have HT := Lib.hid hT
      clear hV hT hjn
      go_wp2_with fail
      exact HE.out _ _ _ _ _ _ _ _ _ _ _ _ _ _ _ _ _ _ _ _ _ _ HV.out HT.out
end Go.Proofs.Ytckeackepolhdaa
