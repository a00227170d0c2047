/- Own: loops of DiskPlays. No statement is proved here. -/
import Derived.Test.YtckeackepolhdaaPlayM
namespace Go.Proofs.Ytckeackepolhdaa
open Go.RowKit
set_option linter.unusedVariables false
set_option linter.unusedSimpArgs false
/-- What a slice value that reads as 64 bytes is as a text. -/
theorem told_conv {w : World} {R : Nat → Prop} {v : Value} {xs : List Int} (h : Told w R v xs) (hl : xs.length = 64) (hb : BytesOk xs) : ∃ a c, v = .slice a 64 c ∧ (convert 27 9 v).run Try.prog w = .ok (.string (strOfNums xs)) w := by
  obtain ⟨g, c, rfl, hc, hR, hg, hr⟩ := h
  refine ⟨_, _, rfl, ?_⟩
  have hrd : Reads w (.slice (some ⟨g, 0, none⟩) 64 c) xs := .inr ⟨g, 0, c, by rw [hl], by rw [hl]; exact hc, fun i hi => by
    have := hr i (.int .u8 (xs.getD i 0)) (by simp [secV, List.getD, hi])
    exact this⟩
  exact hrd.conv

set_option maxHeartbeats 4000000 in
set_option maxRecDepth 1000000 in
theorem plays_sectors (aa aw : Option Addr) (n ca cw k sc SB D : Nat) (off : Bool) (ks : List Nat) (us vs : List Value) (R : Nat → Prop) (ls : Nat → List Int) (c0 c1 c2 c3 c4 c8 c11 c13 c14 c15 c16 c17 c18 c19 c21 c22 c23 c24 c25 c26 c27 c28 c29 c30 c31 c32 c33 c34 c35 c36 c37 c38 c39 c40 c41 c42 c43 c44 c45 c46 c47 c48 c49 c50 c51 c52 c53 c54 c55 c56 c57 c58 c59 c60 c61 c62 c63 c64 c65 c66 c67 c68 c69 c70 c71 c72 c73 c74 c75 c76 c77 c78 c79 c80 c81 c82 c83 c84 c85 c86 c87 c88 c89 c90 c91 c92 c93 c94 c95 c96 c97 c98 c99 c100 c101 c102 c103 c104 c105 c106 c107 c108 c109 c110 c111 c112 c113 c114 c115 c116 c117 c118 c119 c120 c121 c122 c123 c124 c125 c126 c127 c128 c129 c130 c131 c132 c133 c134 c135 c136 c137 c138 c139 c140 c141 c142 c143 c144 c145 c146 c147 c148 c149 c150 c151 c152 c153 c154 c155 c156 c157 c158 c159 c160 c161 c162 c163 c164 c165 c166 c167 c168 c169 c170 c171 c172 c173 c174 c175 c176 c177 c178 c179 c180 c181 c182 c183 c184 c185 c186 c187 c188 c189 c190 c191 c192 c193 c194 c195 c196 c197 c198 c199 c200 c201 c202 c203 c204 c205 c206 c207 c208 c209 c210 c211 c212 c213 c214 c215 c216 c217 c218 c219 c220 c221 c222 c223 c224 c225 c226 c227 c228 c229 c230 c231 c232 c233 c234 c235 c236 c237 c238 c239 c240 c241 c242 c243 c244 c245 c246 c247 c248 c249 c250 c251 c252 c253 c254 c255 c256 c257 c258 c259 c260 c261 c262 c263 c264 c265 c266 c267 c268 c269 c270 c271 c272 c273 c274 c275 c276 c277 c278 c279 c280 c281 c282 c283 c284 c285 c286 c287 c288 c289 c290 c291 c292 c293 c294 c295 c296 c297 c298 c299 c300 c301 c302 c303 c304 : Value) (w : World) (Q0 : Exit → Act → World → Prop)
    (hn : n ≤ 1000) (hk : k ≤ 1000) (hat : NumsAt w aa n ks) (hwet : ValsAt w aw n us) (hus : ∀ j, j < n → ∃ a l c, us.getD j undef = .slice a l c)
    (hvs : ValsIn w SB 27 vs) (hvl : vs.length = k) (hvt : ∀ s, s < k → ∃ a l c, vs.getD s undef = .slice a l c)
    (hwant : ∀ s, s < k → Told w R (lastV (vs.getD s undef) s ks us n) (ls s)) (hls : ∀ s, s < k → (ls s).length = 64 ∧ BytesOk (ls s))
    (hread : ∀ wr, Turn (fun _ => False) w wr → ∀ s, s < k → Calls Try.prog 19 #[.pointer (some ⟨D, 0, none⟩), .int .i64 (s : Int)] wr (fun e w' => Turn (fun _ => False) wr w' ∧ if off = true then e = .returned (.tuple #[.slice none 0 0, .int .i64 9]) else ∃ B, e = .returned (.tuple #[.slice (some ⟨B, 0, none⟩) 64 64, .int .i64 0]) ∧ (convert 27 9 (.slice (some ⟨B, 0, none⟩) 64 64)).run Try.prog w' = .ok (.string (strOfNums (ls s))) w'))
    (hexit : ∀ (u4 u20 u21 u22 u23 u24 u254 u255 u256 u257 u258 u259 u260 u261 u262 u263 u264 u265 u266 u267 u268 u269 u270 u271 u272 u273 u274 u275 u276 u277 u278 u279 u280 u281 u282 u283 u284 u285 u286 u287 u288 u289 u290 u291 u292 u293 u294 u295 u296 u297 u298 u299 u300 u301 u302 u303 u304 : Value) (w' : World), Turn (fun _ => False) w w' → Q0 (.exit 9) ⟨List.toArray (c0 :: c1 :: c2 :: c3 :: u4 :: (.int .i64 (k : Int)) :: (.pointer (some ⟨D, 0, none⟩)) :: (.slice (some ⟨SB, 0, none⟩) k sc) :: c8 :: (.slice aa n ca) :: (.slice aw n cw) :: c11 :: (.bool off) :: c13 :: c14 :: c15 :: c16 :: c17 :: c18 :: c19 :: u20 :: u21 :: u22 :: u23 :: u24 :: c25 :: c26 :: c27 :: c28 :: c29 :: c30 :: c31 :: c32 :: c33 :: c34 :: c35 :: c36 :: c37 :: c38 :: c39 :: c40 :: c41 :: c42 :: c43 :: c44 :: c45 :: c46 :: c47 :: c48 :: c49 :: c50 :: c51 :: c52 :: c53 :: c54 :: c55 :: c56 :: c57 :: c58 :: c59 :: c60 :: c61 :: c62 :: c63 :: c64 :: c65 :: c66 :: c67 :: c68 :: c69 :: c70 :: c71 :: c72 :: c73 :: c74 :: c75 :: c76 :: c77 :: c78 :: c79 :: c80 :: c81 :: c82 :: c83 :: c84 :: c85 :: c86 :: c87 :: c88 :: c89 :: c90 :: c91 :: c92 :: c93 :: c94 :: c95 :: c96 :: c97 :: c98 :: c99 :: c100 :: c101 :: c102 :: c103 :: c104 :: c105 :: c106 :: c107 :: c108 :: c109 :: c110 :: c111 :: c112 :: c113 :: c114 :: c115 :: c116 :: c117 :: c118 :: c119 :: c120 :: c121 :: c122 :: c123 :: c124 :: c125 :: c126 :: c127 :: c128 :: c129 :: c130 :: c131 :: c132 :: c133 :: c134 :: c135 :: c136 :: c137 :: c138 :: c139 :: c140 :: c141 :: c142 :: c143 :: c144 :: c145 :: c146 :: c147 :: c148 :: c149 :: c150 :: c151 :: c152 :: c153 :: c154 :: c155 :: c156 :: c157 :: c158 :: c159 :: c160 :: c161 :: c162 :: c163 :: c164 :: c165 :: c166 :: c167 :: c168 :: c169 :: c170 :: c171 :: c172 :: c173 :: c174 :: c175 :: c176 :: c177 :: c178 :: c179 :: c180 :: c181 :: c182 :: c183 :: c184 :: c185 :: c186 :: c187 :: c188 :: c189 :: c190 :: c191 :: c192 :: c193 :: c194 :: c195 :: c196 :: c197 :: c198 :: c199 :: c200 :: c201 :: c202 :: c203 :: c204 :: c205 :: c206 :: c207 :: c208 :: c209 :: c210 :: c211 :: c212 :: c213 :: c214 :: c215 :: c216 :: c217 :: c218 :: c219 :: c220 :: c221 :: c222 :: c223 :: c224 :: c225 :: c226 :: c227 :: c228 :: c229 :: c230 :: c231 :: c232 :: c233 :: c234 :: c235 :: c236 :: c237 :: c238 :: c239 :: c240 :: c241 :: c242 :: c243 :: c244 :: c245 :: c246 :: c247 :: c248 :: c249 :: c250 :: c251 :: c252 :: c253 :: u254 :: u255 :: u256 :: u257 :: u258 :: u259 :: u260 :: u261 :: u262 :: u263 :: u264 :: u265 :: u266 :: u267 :: u268 :: u269 :: u270 :: u271 :: u272 :: u273 :: u274 :: u275 :: u276 :: u277 :: u278 :: u279 :: u280 :: u281 :: u282 :: u283 :: u284 :: u285 :: u286 :: u287 :: u288 :: u289 :: u290 :: u291 :: u292 :: u293 :: u294 :: u295 :: u296 :: u297 :: u298 :: u299 :: u300 :: u301 :: u302 :: u303 :: u304 :: []), []⟩ w') :
    Code.wp Try.prog (.loop (playBody 4)) Q0 ⟨List.toArray (c0 :: c1 :: c2 :: c3 :: c4 :: (.int .i64 (k : Int)) :: (.pointer (some ⟨D, 0, none⟩)) :: (.slice (some ⟨SB, 0, none⟩) k sc) :: c8 :: (.slice aa n ca) :: (.slice aw n cw) :: c11 :: (.bool off) :: c13 :: c14 :: c15 :: c16 :: c17 :: c18 :: c19 :: (.int .i64 0) :: c21 :: c22 :: c23 :: c24 :: c25 :: c26 :: c27 :: c28 :: c29 :: c30 :: c31 :: c32 :: c33 :: c34 :: c35 :: c36 :: c37 :: c38 :: c39 :: c40 :: c41 :: c42 :: c43 :: c44 :: c45 :: c46 :: c47 :: c48 :: c49 :: c50 :: c51 :: c52 :: c53 :: c54 :: c55 :: c56 :: c57 :: c58 :: c59 :: c60 :: c61 :: c62 :: c63 :: c64 :: c65 :: c66 :: c67 :: c68 :: c69 :: c70 :: c71 :: c72 :: c73 :: c74 :: c75 :: c76 :: c77 :: c78 :: c79 :: c80 :: c81 :: c82 :: c83 :: c84 :: c85 :: c86 :: c87 :: c88 :: c89 :: c90 :: c91 :: c92 :: c93 :: c94 :: c95 :: c96 :: c97 :: c98 :: c99 :: c100 :: c101 :: c102 :: c103 :: c104 :: c105 :: c106 :: c107 :: c108 :: c109 :: c110 :: c111 :: c112 :: c113 :: c114 :: c115 :: c116 :: c117 :: c118 :: c119 :: c120 :: c121 :: c122 :: c123 :: c124 :: c125 :: c126 :: c127 :: c128 :: c129 :: c130 :: c131 :: c132 :: c133 :: c134 :: c135 :: c136 :: c137 :: c138 :: c139 :: c140 :: c141 :: c142 :: c143 :: c144 :: c145 :: c146 :: c147 :: c148 :: c149 :: c150 :: c151 :: c152 :: c153 :: c154 :: c155 :: c156 :: c157 :: c158 :: c159 :: c160 :: c161 :: c162 :: c163 :: c164 :: c165 :: c166 :: c167 :: c168 :: c169 :: c170 :: c171 :: c172 :: c173 :: c174 :: c175 :: c176 :: c177 :: c178 :: c179 :: c180 :: c181 :: c182 :: c183 :: c184 :: c185 :: c186 :: c187 :: c188 :: c189 :: c190 :: c191 :: c192 :: c193 :: c194 :: c195 :: c196 :: c197 :: c198 :: c199 :: c200 :: c201 :: c202 :: c203 :: c204 :: c205 :: c206 :: c207 :: c208 :: c209 :: c210 :: c211 :: c212 :: c213 :: c214 :: c215 :: c216 :: c217 :: c218 :: c219 :: c220 :: c221 :: c222 :: c223 :: c224 :: c225 :: c226 :: c227 :: c228 :: c229 :: c230 :: c231 :: c232 :: c233 :: c234 :: c235 :: c236 :: c237 :: c238 :: c239 :: c240 :: c241 :: c242 :: c243 :: c244 :: c245 :: c246 :: c247 :: c248 :: c249 :: c250 :: c251 :: c252 :: c253 :: c254 :: c255 :: c256 :: c257 :: c258 :: c259 :: c260 :: c261 :: c262 :: c263 :: c264 :: c265 :: c266 :: c267 :: c268 :: c269 :: c270 :: c271 :: c272 :: c273 :: c274 :: c275 :: c276 :: c277 :: c278 :: c279 :: c280 :: c281 :: c282 :: c283 :: c284 :: c285 :: c286 :: c287 :: c288 :: c289 :: c290 :: c291 :: c292 :: c293 :: c294 :: c295 :: c296 :: c297 :: c298 :: c299 :: c300 :: c301 :: c302 :: c303 :: c304 :: []), []⟩ w := by
  have HE := Lib.hid hexit
  have HA := Lib.hid hat
  have HW := Lib.hid hwet
  have HU := Lib.hid hus
  have HVS := Lib.hid hvs
  have HVL := Lib.hid hvl
  have HVT := Lib.hid hvt
  have HWA := Lib.hid hwant
  have HLS := Lib.hid hls
  have HRD := Lib.hid hread
  clear hexit hat hwet hus hvs hvl hvt hwant hls hread
  conv => arg 2; arg 1; whnf
  go_loopw [20] (fun sv wr => ∃ (s : Nat), s ≤ k ∧ sv = .int .i64 (s : Int) ∧ Turn (fun _ => False) w wr) (fun sv _ => k - (intOf sv).toNat)
  case atStart => exact ⟨0, by omega, rfl, Turn.refl _ w⟩
  case round =>
    obtain ⟨s, hs, rfl, hT⟩ := hrel
    have HT := Lib.hid hT
    by_cases hlt : s < k
    · have c1 := (HVS.out.turn hT id).cell s (by rw [HVL.out]; exact hlt)
      obtain ⟨xa, xl, xc, hx⟩ := HVT.out s hlt
      have hwn := HWA.out s hlt
      rw [hx] at c1 hwn
      have hwn2 := hwn.turn hT (fun _ _ _ => id)
      have HWN := Lib.hid hwn
      have gm : 0 ≤ (s : Int) ∧ (s : Int) < (k : Int) := by omega
      have dl : decide ((s : Int) < (k : Int)) = true := by simp; omega
      have HAr := Lib.hid (show NumsAt wr aa n ks from fun h => by
        obtain ⟨g, e, hc⟩ := HA.out h
        exact ⟨g, e, fun j hj => (hT.cell (p := ⟨g, j, none⟩) (World.block_lt_of_cell? w _ (hc j hj)) id).trans (hc j hj)⟩)
      have HWr := Lib.hid (show ValsAt wr aw n us from fun h => by
        obtain ⟨g, e, hc⟩ := HW.out h
        exact ⟨g, e, fun j hj => (hT.cell (p := ⟨g, j, none⟩) (World.block_lt_of_cell? w _ (hc j hj)) id).trans (hc j hj)⟩)
      clear hT hx hwn hwn2
      go_wp2_with fail
      refine plays_want aa aw n ca cw s (.slice xa xl xc) ks us _ _ _ _ _ _ _ _ _ _ _ _ _ _ _ _ _ _ _ _ _ _ _ _ _ _ _ _ _ _ _ _ _ _ _ _ _ _ _ _ _ _ _ _ _ _ _ _ _ _ _ _ _ _ _ _ _ _ _ _ _ _ _ _ _ _ _ _ _ _ _ _ _ _ _ _ _ _ _ _ _ _ _ _ _ _ _ _ _ _ _ _ _ _ _ _ _ _ _ _ _ _ _ _ _ _ _ _ _ _ _ _ _ _ _ _ _ _ _ _ _ _ _ _ _ _ _ _ _ _ _ _ _ _ _ _ _ _ _ _ _ _ _ _ _ _ _ _ _ _ _ _ _ _ _ _ _ _ _ _ _ _ _ _ _ _ _ _ _ _ _ _ _ _ _ _ _ _ _ _ _ _ _ _ _ _ _ _ _ _ _ _ _ _ _ _ _ _ _ _ _ _ _ _ _ _ _ _ _ _ _ _ _ _ _ _ _ _ _ _ _ _ _ _ _ _ _ _ _ _ _ _ _ _ _ _ _ _ _ _ _ _ _ _ _ _ _ _ _ _ _ _ _ _ _ _ _ _ _ _ _ _ _ _ _ _ _ _ _ _ _ _ _ _ _ _ _ _ _ _ _ _ _ _ _ _ _ _ _ _ _ _ _ _ _ _ _ _ _ _ _ _ hn HAr.out HWr.out HU.out ?_
      intro _ _ _ _ _ _ _ _ _ _ _ _ _ _ _ _ _
      obtain ⟨wa, wc, hwv, -⟩ := told_conv HWN.out (HLS.out s hlt).1 (HLS.out s hlt).2
      have HWN2 := Lib.hid HWN.out
      rw [hwv] at HWN2 ⊢
      clear hwv
      go_wp2_with fail
      refine (HRD.out wr HT.out s hlt).mono ?_
      rintro e w5 ⟨T5, he⟩
      have HT5 := Lib.hid (HT.out.trans T5 (fun _ _ => id))
      cases off with
      | true =>
        rw [if_pos rfl] at he
        subst he
        clear T5
        go_wp2_with fail
        exact ⟨⟨s + 1, by omega, by go_num, HT5.out⟩, by simp [intOf]; omega⟩
      | false =>
        rw [if_neg (by decide)] at he
        obtain ⟨B, rfl, hcv⟩ := he
        obtain ⟨a9, c9, he9, hcw⟩ := told_conv (HWN2.out.turn HT5.out (fun _ _ _ => id)) (HLS.out s hlt).1 (HLS.out s hlt).2
        cases he9
        obtain ⟨st, hst⟩ : ∃ st, strOfNums (ls s) = st := ⟨_, rfl⟩
        rw [hst] at hcv hcw
        clear T5 hst
        go_wp2_with fail
        exact ⟨⟨s + 1, by omega, by go_num, HT5.out⟩, by simp [intOf]; omega⟩
    · have dl : decide ((s : Int) < (k : Int)) = false := by simp; omega
      have dl2 : decide (s < k) = false := by simp; omega
      have dl3 : ¬ s < k := hlt
      clear hT
      obtain rfl : s = k := by omega
      go_wp2_with fail
      exact HE.out _ _ _ _ _ _ _ _ _ _ _ _ _ _ _ _ _ _ _ _ _ _ _ _ _ _ _ _ _ _ _ _ _ _ _ _ _ _ _ _ _ _ _ _ _ _ _ _ _ _ _ _ _ _ _ _ _ _ HT.out
end Go.Proofs.Ytckeackepolhdaa
