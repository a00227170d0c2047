/- Own: loops of DiskPlays. No statement is proved here. -/
import Derived.Test.YtckeackepolhdaaHelp3
namespace Go.Proofs.Ytckeackepolhdaa
open Go.RowKit
set_option linter.unusedVariables false
set_option linter.unusedSimpArgs false
set_option maxHeartbeats 4000000 in
set_option maxRecDepth 1000000 in
theorem round_write3 (w0 : World) (g o n cp i D k SB sc m cA L pc ca cw : Nat) (aa aw pa : Option Addr) (K At : Int) (ps : List Int) (lf : Int) (off : Bool) (d : DiskM) (F R : Nat → Prop) (vs us : List Value) (c0 c2 c3 c4 c8 c15 c16 c17 c18 c19 c20 c21 c22 c23 c24 c25 c26 c27 c28 c29 c30 c31 c32 c33 c34 c35 c36 c37 c38 c39 c40 c41 c42 c43 c44 c45 c46 c47 c48 c49 c50 c51 c52 c53 c54 c55 c56 c57 c58 c59 c60 c61 c62 c63 c64 c65 c66 c67 c68 c69 c70 c71 c72 c73 c74 c75 c76 c77 c78 c79 c80 c81 c82 c83 c84 c85 c86 c87 c88 c89 c90 c91 c92 c93 c94 c95 c96 c97 c98 c99 c100 c101 c102 c103 c104 c105 c106 c107 c108 c109 c110 c111 c112 c113 c114 c115 c116 c117 c118 c119 c120 c121 c122 c123 c124 c125 c126 c127 c128 c129 c130 c131 c132 c133 c134 c135 c136 c137 c138 c139 c140 c141 c142 c143 c144 c145 c146 c147 c148 c149 c150 c151 c152 c153 c154 c155 c156 c157 c158 c159 c160 c161 c162 c163 c164 c165 c166 c167 c168 c169 c170 c171 c172 c173 c174 c175 c176 c177 c178 c179 c180 c181 c182 c183 c184 c185 c186 c187 c188 c189 c190 c191 c192 c193 c194 c195 c196 c197 c198 c199 c200 c201 c202 c203 c204 c205 c206 c207 c208 c209 c210 c211 c212 c213 c214 c215 c216 c217 c218 c219 c220 c221 c222 c223 c224 c225 c226 c227 c228 c229 c230 c231 c232 c233 c234 c235 c236 c237 c238 c239 c240 c241 c242 c243 c244 c245 c246 c247 c248 c249 c250 c251 c252 c253 c254 c255 c256 c257 c258 c259 c260 c261 c262 c263 c264 c265 c266 c267 c268 c269 c270 c271 c272 c273 c274 c275 c276 c277 c278 c279 c280 c281 c282 c283 c284 c285 c286 c287 c288 c289 c290 c291 c292 c293 c294 c295 c296 c297 c298 c299 c300 c301 c302 c303 c304 : Value) (w : World) (Q0 : Exit → Act → World → Prop)
    (hQ : ∀ e d v a w, Q0 (.panic e) (Act.put a d v) w → Q0 (.panic e) a w)
    (hk : k ≤ 1000) (hn : n ≤ 40) (hi : i < n) (hact : ActAt w0 g o i (.slice pa L pc) ⟨K, At, ps⟩) (hps : ps.length = L) (hL80 : L ≤ 80) (hK : K.toNat % 8 < 5) (h1 : 0 ≤ At) (h2 : At < (k : Int)) (h3 : L ≤ 64) (hof : off = false) (ha9 : d.armed = true ∧ d.left ≠ 0)
    (hst : RSt w0 w D k SB d F R vs (.slice aa m ca) (.slice aw m cw) us d.safe d.wet) (hm : d.wet.length = m) (hm40 : m ≤ 40) (hcA : d.acts = cA) (hcA40 : cA ≤ 40) (hlf : leftI d = lf) (hl8 : d.left ≤ 8) (hoff : d.off = off)
    (hexit : ∀ (u4 u15 u16 u17 u18 u19 u20 u21 u22 u23 u24 u49 u50 u51 u52 u53 u54 u55 u56 u57 u58 u59 u60 u61 u62 u63 u64 u65 u66 u67 u68 u69 u70 u71 u72 u73 u74 u75 u76 u77 u78 u79 u80 u81 u82 u83 u84 u85 u86 u87 u88 u89 u90 u91 u92 u93 u94 u95 u96 u97 u98 u99 u100 u101 u102 u103 u104 u105 u106 u107 u108 u109 u110 u111 u112 u113 u114 u115 u116 u117 u118 u119 u120 u121 u122 u123 u124 u125 u126 u127 u128 u129 u130 u131 u132 u133 u134 u135 u136 u137 u138 u139 u140 u141 u142 u143 u144 u145 u146 u147 u148 u149 u150 u151 u152 u153 u154 u155 u156 u157 u158 u159 u160 u161 u162 u163 u164 u165 u166 u167 u168 u169 u170 u171 u172 u173 u174 u175 u176 u177 u178 u179 u180 u181 u182 u183 u184 u185 u186 u187 u188 u189 u190 u191 u192 u193 u194 u195 u196 u197 u198 u199 u200 u201 u202 u203 u204 u205 u206 u207 u208 u209 u210 u211 u212 u213 u214 u215 u216 u217 u218 u219 u220 u221 u222 u223 u224 u225 u226 u227 u228 u229 u230 u231 u232 u233 u234 u235 u236 u237 u238 u239 u240 u241 u242 u243 u244 u245 u246 u247 u248 u249 u250 u251 u252 u253 u254 u255 u256 u257 u258 u259 u260 u261 u262 u263 u264 u265 u266 u267 u268 u269 u270 u271 u272 u273 u274 u275 u276 u277 u278 u279 u280 u281 u282 u283 u284 u285 u286 u287 u288 u289 u290 u291 u292 u293 u294 u295 u296 u297 u298 u299 u300 u301 u302 u303 u304 : Value) (d' : DiskM) (F' R' : Nat → Prop) (vs' us' : List Value) (aa' aw' : Option Addr) (ca' cw' m' : Nat) (lf' : Int) (of' : Bool) (cA' : Int) (w' : World), RSt w0 w' D k SB d' F' R' vs' (.slice aa' m' ca') (.slice aw' m' cw') us' d'.safe d'.wet → d'.wet.length = m' → m' ≤ m + 1 → d'.acts ≤ cA + 1 → d'.left ≤ 8 → leftI d' = lf' → d'.off = of' → (d'.acts : Int) = cA' → Q0 .normal ⟨List.toArray (c0 :: (.slice (some ⟨g, o, none⟩) n cp) :: c2 :: c3 :: u4 :: (.int .i64 (k : Int)) :: (.pointer (some ⟨D, 0, none⟩)) :: (.slice (some ⟨SB, 0, none⟩) k sc) :: c8 :: (.slice aa' m' ca') :: (.slice aw' m' cw') :: (.int .i64 lf') :: (.bool of') :: (.int .i64 cA') :: (.int .i64 ((i : Int) + 1)) :: u15 :: u16 :: u17 :: u18 :: u19 :: u20 :: u21 :: u22 :: u23 :: u24 :: c25 :: c26 :: c27 :: c28 :: c29 :: c30 :: c31 :: c32 :: c33 :: c34 :: c35 :: c36 :: c37 :: c38 :: c39 :: c40 :: c41 :: c42 :: c43 :: c44 :: c45 :: c46 :: c47 :: c48 :: u49 :: u50 :: u51 :: u52 :: u53 :: u54 :: u55 :: u56 :: u57 :: u58 :: u59 :: u60 :: u61 :: u62 :: u63 :: u64 :: u65 :: u66 :: u67 :: u68 :: u69 :: u70 :: u71 :: u72 :: u73 :: u74 :: u75 :: u76 :: u77 :: u78 :: u79 :: u80 :: u81 :: u82 :: u83 :: u84 :: u85 :: u86 :: u87 :: u88 :: u89 :: u90 :: u91 :: u92 :: u93 :: u94 :: u95 :: u96 :: u97 :: u98 :: u99 :: u100 :: u101 :: u102 :: u103 :: u104 :: u105 :: u106 :: u107 :: u108 :: u109 :: u110 :: u111 :: u112 :: u113 :: u114 :: u115 :: u116 :: u117 :: u118 :: u119 :: u120 :: u121 :: u122 :: u123 :: u124 :: u125 :: u126 :: u127 :: u128 :: u129 :: u130 :: u131 :: u132 :: u133 :: u134 :: u135 :: u136 :: u137 :: u138 :: u139 :: u140 :: u141 :: u142 :: u143 :: u144 :: u145 :: u146 :: u147 :: u148 :: u149 :: u150 :: u151 :: u152 :: u153 :: u154 :: u155 :: u156 :: u157 :: u158 :: u159 :: u160 :: u161 :: u162 :: u163 :: u164 :: u165 :: u166 :: u167 :: u168 :: u169 :: u170 :: u171 :: u172 :: u173 :: u174 :: u175 :: u176 :: u177 :: u178 :: u179 :: u180 :: u181 :: u182 :: u183 :: u184 :: u185 :: u186 :: u187 :: u188 :: u189 :: u190 :: u191 :: u192 :: u193 :: u194 :: u195 :: u196 :: u197 :: u198 :: u199 :: u200 :: u201 :: u202 :: u203 :: u204 :: u205 :: u206 :: u207 :: u208 :: u209 :: u210 :: u211 :: u212 :: u213 :: u214 :: u215 :: u216 :: u217 :: u218 :: u219 :: u220 :: u221 :: u222 :: u223 :: u224 :: u225 :: u226 :: u227 :: u228 :: u229 :: u230 :: u231 :: u232 :: u233 :: u234 :: u235 :: u236 :: u237 :: u238 :: u239 :: u240 :: u241 :: u242 :: u243 :: u244 :: u245 :: u246 :: u247 :: u248 :: u249 :: u250 :: u251 :: u252 :: u253 :: u254 :: u255 :: u256 :: u257 :: u258 :: u259 :: u260 :: u261 :: u262 :: u263 :: u264 :: u265 :: u266 :: u267 :: u268 :: u269 :: u270 :: u271 :: u272 :: u273 :: u274 :: u275 :: u276 :: u277 :: u278 :: u279 :: u280 :: u281 :: u282 :: u283 :: u284 :: u285 :: u286 :: u287 :: u288 :: u289 :: u290 :: u291 :: u292 :: u293 :: u294 :: u295 :: u296 :: u297 :: u298 :: u299 :: u300 :: u301 :: u302 :: u303 :: u304 :: []), []⟩ w') :
    Code.wp Try.prog (playBody 1) Q0 ⟨List.toArray (c0 :: (.slice (some ⟨g, o, none⟩) n cp) :: c2 :: c3 :: c4 :: (.int .i64 (k : Int)) :: (.pointer (some ⟨D, 0, none⟩)) :: (.slice (some ⟨SB, 0, none⟩) k sc) :: c8 :: (.slice aa m ca) :: (.slice aw m cw) :: (.int .i64 lf) :: (.bool off) :: (.int .i64 (cA : Int)) :: (.int .i64 (i : Int)) :: c15 :: c16 :: c17 :: c18 :: c19 :: c20 :: c21 :: c22 :: c23 :: c24 :: c25 :: c26 :: c27 :: c28 :: c29 :: c30 :: c31 :: c32 :: c33 :: c34 :: c35 :: c36 :: c37 :: c38 :: c39 :: c40 :: c41 :: c42 :: c43 :: c44 :: c45 :: c46 :: c47 :: c48 :: c49 :: c50 :: c51 :: c52 :: c53 :: c54 :: c55 :: c56 :: c57 :: c58 :: c59 :: c60 :: c61 :: c62 :: c63 :: c64 :: c65 :: c66 :: c67 :: c68 :: c69 :: c70 :: c71 :: c72 :: c73 :: c74 :: c75 :: c76 :: c77 :: c78 :: c79 :: c80 :: c81 :: c82 :: c83 :: c84 :: c85 :: c86 :: c87 :: c88 :: c89 :: c90 :: c91 :: c92 :: c93 :: c94 :: c95 :: c96 :: c97 :: c98 :: c99 :: c100 :: c101 :: c102 :: c103 :: c104 :: c105 :: c106 :: c107 :: c108 :: c109 :: c110 :: c111 :: c112 :: c113 :: c114 :: c115 :: c116 :: c117 :: c118 :: c119 :: c120 :: c121 :: c122 :: c123 :: c124 :: c125 :: c126 :: c127 :: c128 :: c129 :: c130 :: c131 :: c132 :: c133 :: c134 :: c135 :: c136 :: c137 :: c138 :: c139 :: c140 :: c141 :: c142 :: c143 :: c144 :: c145 :: c146 :: c147 :: c148 :: c149 :: c150 :: c151 :: c152 :: c153 :: c154 :: c155 :: c156 :: c157 :: c158 :: c159 :: c160 :: c161 :: c162 :: c163 :: c164 :: c165 :: c166 :: c167 :: c168 :: c169 :: c170 :: c171 :: c172 :: c173 :: c174 :: c175 :: c176 :: c177 :: c178 :: c179 :: c180 :: c181 :: c182 :: c183 :: c184 :: c185 :: c186 :: c187 :: c188 :: c189 :: c190 :: c191 :: c192 :: c193 :: c194 :: c195 :: c196 :: c197 :: c198 :: c199 :: c200 :: c201 :: c202 :: c203 :: c204 :: c205 :: c206 :: c207 :: c208 :: c209 :: c210 :: c211 :: c212 :: c213 :: c214 :: c215 :: c216 :: c217 :: c218 :: c219 :: c220 :: c221 :: c222 :: c223 :: c224 :: c225 :: c226 :: c227 :: c228 :: c229 :: c230 :: c231 :: c232 :: c233 :: c234 :: c235 :: c236 :: c237 :: c238 :: c239 :: c240 :: c241 :: c242 :: c243 :: c244 :: c245 :: c246 :: c247 :: c248 :: c249 :: c250 :: c251 :: c252 :: c253 :: c254 :: c255 :: c256 :: c257 :: c258 :: c259 :: c260 :: c261 :: c262 :: c263 :: c264 :: c265 :: c266 :: c267 :: c268 :: c269 :: c270 :: c271 :: c272 :: c273 :: c274 :: c275 :: c276 :: c277 :: c278 :: c279 :: c280 :: c281 :: c282 :: c283 :: c284 :: c285 :: c286 :: c287 :: c288 :: c289 :: c290 :: c291 :: c292 :: c293 :: c294 :: c295 :: c296 :: c297 :: c298 :: c299 :: c300 :: c301 :: c302 :: c303 :: c304 :: []), []⟩ w := by
  have HE := Lib.hid hexit
  have HQ := Lib.hid hQ
  have hKb := hact.kOk
  have hAb := hact.atOk
  have hg0 : g < w0.heap.size := World.block_lt_of_cell? w0 _ hact.kind
  have a0 : w.cell? ⟨g, o + i * 3, none⟩ = some (.int .u8 K) := (hst.turn.cell (p := ⟨g, _, none⟩) hg0 id).trans hact.kind
  have a1 : w.cell? ⟨g, o + i * 3 + 1, none⟩ = some (.int .i64 At) := (hst.turn.cell (p := ⟨g, _, none⟩) hg0 id).trans hact.place
  have a2 : w.cell? ⟨g, o + i * 3 + 2, none⟩ = some (.slice pa L pc) := (hst.turn.cell (p := ⟨g, _, none⟩) hg0 id).trans hact.bytes
  obtain ⟨w3, hw3⟩ : ∃ w3, w.alloc (.cells #[.int .u8 K, .int .i64 At, .slice pa L pc] 30) = w3 := ⟨_, rfl⟩
  obtain ⟨AB, hAB⟩ : ∃ AB, w.heap.size = AB := ⟨_, rfl⟩
  have T3 : Turn (fun _ => False) w w3 := by rw [← hw3]; exact (Turn.refl _ w).alloc _
  have hbx : w3.heap[AB]? = some (.cells #[.int .u8 K, .int .i64 At, .slice pa L pc] 30 (0, 0)) := by rw [← hw3, ← hAB]; exact heap_alloc_new w _
  have k0 : w3.cell? ⟨AB, 0, none⟩ = some (.int .u8 K) := cell_of_row w3 AB 0 _ 30 (0, 0) hbx
  have k1 : w3.cell? ⟨AB, 1, none⟩ = some (.int .i64 At) := cell_of_row w3 AB 1 _ 30 (0, 0) hbx
  have k2 : w3.cell? ⟨AB, 2, none⟩ = some (.slice pa L pc) := cell_of_row w3 AB 2 _ 30 (0, 0) hbx
  have HS := Lib.hid (hst.calm T3)
  have hABl : AB < w3.heap.size := World.block_lt_of_cell? w3 _ k2
  have HAB := Lib.hid (show w0.heap.size ≤ AB ∧ ¬ F AB ∧ AB ≠ SB ∧ (Value.slice aa m ca).ownBlock ≠ some AB ∧ (Value.slice aw m cw).ownBlock ≠ some AB from
    ⟨by have := hst.turn.size; omega, fun h => by have := (hst.fl AB h).1; omega, fun h => by have := hst.sv.lt; omega, fun h => by have := (hst.ra.lt AB h).2; omega, fun h => by have := (hst.rb.lt AB h).2; omega⟩)
  have HSRC := Lib.hid hact.src
  have HOLD := Lib.hid hact.old
  have HBOK := Lib.hid hact.ok
  have HPS := Lib.hid hps
  have hiI : (i : Int) < (n : Int) := by omega
  obtain ⟨kk, rfl⟩ := Int.eq_ofNat_of_zero_le hKb.1
  have HM0 := Lib.hid hm
  have HCA := Lib.hid hcA
  have HLF0 := Lib.hid hlf
  have HOF0 := Lib.hid hoff
  have hL80I : ¬ ((80 : Int) < (L : Int)) := by omega
  obtain ⟨S0, dsc0, wv0, hd0⟩ := (hst.calm T3).disk
  have HD0 := Lib.hid hd0
  have HKL := Lib.hid hst.klen
  clear hexit hQ hact hst T3 hbx hm hcA hlf hoff hd0 hps
  obtain ⟨q8, hq8⟩ : ∃ q8, kk % 8 = q8 := ⟨_, rfl⟩
  have hK5 : q8 < 5 := by simp at hK; omega
  have r1 : (kk : Int) % 8 = (q8 : Int) := by omega
  have r2 : Int.tmod (kk : Int) 8 = (q8 : Int) := by rw [Int.tmod_eq_emod_of_nonneg (by omega)]; exact r1
  have r3 : ((q8 : Int) == 5) = false := by rw [beq_eq_false_iff_ne]; omega
  have r4 : ((q8 : Int) == 6) = false := by rw [beq_eq_false_iff_ne]; omega
  have r5 : ((q8 : Int) == 7) = false := by rw [beq_eq_false_iff_ne]; omega
  have r6 : ¬ ((q8 : Int) = 5) := by omega
  have r7 : ¬ ((q8 : Int) = 6) := by omega
  have r8 : ¬ ((q8 : Int) = 7) := by omega
  clear hK hq8
  have HV3 := Lib.hid (src_turn_pos HSRC.out HS.out.turn (fun _ _ _ => id))
  conv => arg 2; whnf
  subst hof
  obtain ⟨p, rfl⟩ := Int.eq_ofNat_of_zero_le (show 0 ≤ At by omega)
  have hpk : p < k := by omega
  have hL64 : L ≤ 64 := by omega
  have x3 : ¬ ((64 : Int) < (L : Int)) := by omega
  have x4 : ¬ ((k : Int) ≤ (p : Int)) := by omega
  have hw64 : IntKind.i64.wrap (64 - (L : Int)) = 64 - (L : Int) := by rw [IntKind.wrap_i64]; omega
  rcases arm_cases ({ d with wet := d.wet ++ [(p, pad64 ps)] } : DiskM) with ⟨ha, l1, e1, l2, o2⟩ | ⟨ha, l1, e1, l2, o2⟩ | ⟨l, ha, hl, l1, e1, l2, o2⟩
  · exact absurd (show d.armed = false from ha) (by rw [ha9.1]; decide)
  · have h8 : leftI d = 0 := l1
    have h7 : d.armed = true := ha
    unfold leftI at h8
    rw [if_pos h7] at h8
    exact absurd (show d.left = 0 by omega) ha9.2
  · obtain rfl : lf = (l : Int) + 1 := HLF0.out.symm.trans l1
    have p1 : (((l : Int) + 1) == 0) = false := by rw [beq_eq_false_iff_ne]; omega
    have p2 : ¬ ((l : Int) + 1 = 0) := by omega
    have p3 : (0 : Int) < (l : Int) + 1 := by omega
    have p4 : l ≤ 8 := by have h9 : d.left = l + 1 := hl; omega
    have E1 := Lib.hid e1
    have LL := Lib.hid l2
    have OO := Lib.hid (o2.trans (show ({ d with wet := d.wet ++ [(p, pad64 ps)] } : DiskM).off = false from HOF0.out))
    clear e1 l1 l2 o2 ha hl
    go_wp2_with fail
    refine (write_good w3 F D S0 dsc0 wv0 d p (.slice pa L pc) ps HD0.out (by rw [HKL.out]; exact hpk) HOF0.out HV3.out HBOK.out (by rw [HPS.out]; exact hL64) (by rw [HM0.out]; omega) (by rw [HCA.out]; omega) (by omega)).mono ?_
    rintro e w4 ⟨rfl, F1, S1, sc1, wv1, hd4, hg4, T4⟩
    rw [E1.out]
    obtain ⟨F4, hr4⟩ := HS.out.act hd4 hg4 T4 (by rw [(DiskM.act_same _).1]; exact HKL.out)
    obtain ⟨a1, c1, w5, v1, w6, g9, c9, w7, a2, c2, w8, R', e11, T05, t45, e2, e3, e4, hfin, t56, t57, t78⟩ := add_all hr4 p m hpk HM0.out (by omega) (.slice pa L pc) ps HSRC.out (fun h q hq => HOLD.out q hq h) (by rw [HPS.out]; exact hL64)
    rw [HPS.out] at e3
    have k14 : w4.cell? ⟨AB, 1, none⟩ = some (.int .i64 (p : Int)) := (T4.cell (p := ⟨AB, 1, none⟩) hABl HAB.out.2.1).trans k1
    have k24 : w4.cell? ⟨AB, 2, none⟩ = some (.slice pa L pc) := (T4.cell (p := ⟨AB, 2, none⟩) hABl HAB.out.2.1).trans k2
    have hAB4 : AB < w4.heap.size := World.block_lt_of_cell? w4 _ k24
    have k25 : w5.drew.cell? ⟨AB, 2, none⟩ = some (.slice pa L pc) := (t45.cell (p := ⟨AB, 2, none⟩) hAB4 HAB.out.2.2.2.1).trans k24
    have hAB5 : AB < w5.drew.heap.size := World.block_lt_of_cell? w5.drew _ k25
    have k26 : w6.cell? ⟨AB, 2, none⟩ = some (.slice pa L pc) := (t56.cell (p := ⟨AB, 2, none⟩) hAB5 id).trans k25
    have k27 : w7.cell? ⟨AB, 2, none⟩ = some (.slice pa L pc) := (t57.cell (p := ⟨AB, 2, none⟩) hAB5 id).trans k25
    have k28 : (w7.alloc (.cells #[.slice (some ⟨g9, 0, none⟩) 64 c9] 27)).cell? ⟨AB, 2, none⟩ = some (.slice pa L pc) := by rw [World.cell?_alloc_some _ _ _ (by rw [k27]; rfl)]; exact k27
    have k29 : w8.cell? ⟨AB, 2, none⟩ = some (.slice pa L pc) := (t78.cell (p := ⟨AB, 2, none⟩) (World.block_lt_of_cell? w7 _ k27) HAB.out.2.2.2.2).trans k27
    have HR := Lib.hid hfin
    have K25 := Lib.hid k25
    have E2 := Lib.hid e2
    have E3 := Lib.hid e3
    have E4 := Lib.hid e4
    clear hr4 hd4 hg4 T4 hfin t45 t56 t57 t78 T05 e2 e3 e4
    go_wp2_with (at_builtin; refine Lib.wpList_append_run _ rfl _ _ _ _ rfl _ _ rfl rfl _ _ e11 ?_)
    refine wp_region_held_drew (S := fun wq => wq.cell? ⟨AB, 2, none⟩ = some (.slice pa L pc)) (by kernel_rfl) k25 (fun hHeld => ?_)
    refine wpAnyH_take (i := 0) (v := .slice aw m cw) rfl (by kernel_rfl) (by kernel_rfl) (by kernel_rfl) (fun _ _ _ h => HQ.out _ _ _ _ _ h) (Or.inl ⟨by rfl, ?yz0⟩) (by assumption) ?rz0
    case yz0 => (intro wq hSw; (try simp only [List.getElem_toArray, List.getElem_cons_zero, List.getElem_cons_succ]); go_simp; (try with_reducible rfl); all_goals (try omega))
    case rz0 =>
    try simp only [Act.put, List.setIfInBounds_toArray, List.set_cons_zero, List.set_cons_succ, List.getElem_toArray, List.getElem_cons_zero, List.getElem_cons_succ]
    refine wpAnyH_take (i := 1) (v := .pointer (some ⟨AB, 2, none⟩)) rfl (by kernel_rfl) (by kernel_rfl) (by kernel_rfl) (fun _ _ _ h => HQ.out _ _ _ _ _ h) (Or.inl ⟨by rfl, ?yz1⟩) (by assumption) ?rz1
    case yz1 => (intro wq hSw; (try simp only [List.getElem_toArray, List.getElem_cons_zero, List.getElem_cons_succ]); go_simp; (try with_reducible rfl); all_goals (try omega))
    case rz1 =>
    try simp only [Act.put, List.setIfInBounds_toArray, List.set_cons_zero, List.set_cons_succ, List.getElem_toArray, List.getElem_cons_zero, List.getElem_cons_succ]
    refine wpAnyH_take (i := 2) (v := .slice pa L pc) rfl (by kernel_rfl) (by kernel_rfl) (by kernel_rfl) (fun _ _ _ h => HQ.out _ _ _ _ _ h) (Or.inl ⟨by rfl, ?yz2⟩) (by assumption) ?rz2
    case yz2 => (intro wq hSw; have z1 := hSw; (try simp only [List.getElem_toArray, List.getElem_cons_zero, List.getElem_cons_succ]); go_simp; (try with_reducible rfl); all_goals (try omega))
    case rz2 =>
    try simp only [Act.put, List.setIfInBounds_toArray, List.set_cons_zero, List.set_cons_succ, List.getElem_toArray, List.getElem_cons_zero, List.getElem_cons_succ]
    refine wpAnyH_take (i := 4) (v := .pointer (some ⟨AB, 2, none⟩)) rfl (by kernel_rfl) (by kernel_rfl) (by kernel_rfl) (fun _ _ _ h => HQ.out _ _ _ _ _ h) (Or.inl ⟨by rfl, ?yz4⟩) (by assumption) ?rz4
    case yz4 => (intro wq hSw; (try simp only [List.getElem_toArray, List.getElem_cons_zero, List.getElem_cons_succ]); go_simp; (try with_reducible rfl); all_goals (try omega))
    case rz4 =>
    try simp only [Act.put, List.setIfInBounds_toArray, List.set_cons_zero, List.set_cons_succ, List.getElem_toArray, List.getElem_cons_zero, List.getElem_cons_succ]
    refine wpAnyH_take (i := 5) (v := .slice pa L pc) rfl (by kernel_rfl) (by kernel_rfl) (by kernel_rfl) (fun _ _ _ h => HQ.out _ _ _ _ _ h) (Or.inl ⟨by rfl, ?yz5⟩) (by assumption) ?rz5
    case yz5 => (intro wq hSw; have z1 := hSw; (try simp only [List.getElem_toArray, List.getElem_cons_zero, List.getElem_cons_succ]); go_simp; (try with_reducible rfl); all_goals (try omega))
    case rz5 =>
    try simp only [Act.put, List.setIfInBounds_toArray, List.set_cons_zero, List.set_cons_succ, List.getElem_toArray, List.getElem_cons_zero, List.getElem_cons_succ]
    refine wpAnyH_take (i := 6) (v := .int .i64 (L : Int)) rfl (by kernel_rfl) (by kernel_rfl) (by kernel_rfl) (fun _ _ _ h => HQ.out _ _ _ _ _ h) (Or.inl ⟨by rfl, ?yz6⟩) (by assumption) ?rz6
    case yz6 => (intro wq hSw; (try simp only [List.getElem_toArray, List.getElem_cons_zero, List.getElem_cons_succ]); go_simp; (try with_reducible rfl); all_goals (try omega))
    case rz6 =>
    try simp only [Act.put, List.setIfInBounds_toArray, List.set_cons_zero, List.set_cons_succ, List.getElem_toArray, List.getElem_cons_zero, List.getElem_cons_succ]
    refine wpAnyH_take (i := 7) (v := .int .i64 (64 - (L : Int))) rfl (by kernel_rfl) (by kernel_rfl) (by kernel_rfl) (fun _ _ _ h => HQ.out _ _ _ _ _ h) (Or.inl ⟨by rfl, ?yz7⟩) (by assumption) ?rz7
    case yz7 => (intro wq hSw; (try simp only [List.getElem_toArray, List.getElem_cons_zero, List.getElem_cons_succ]); go_simp; (try with_reducible rfl); all_goals (try omega))
    case rz7 =>
    try simp only [Act.put, List.setIfInBounds_toArray, List.set_cons_zero, List.set_cons_succ, List.getElem_toArray, List.getElem_cons_zero, List.getElem_cons_succ]
    refine wpAnyH_ready (rs := [3]) (by kernel_rfl) (by simp) ?_
    refine AllReadyH.cons rfl (fun K hK => ?_) AllReadyH.nil
    rw [if_pos (by rfl)]
    refine oper_exec _ _ (exec_append _ _ (.const (.slice none 0 0)) (.tmp 119) 27 rfl _ _ _ _ _ rfl rfl E2.out) ?_
    refine hK.out _ _ k26 (fun _ => ?_)
    clear hK K
    try simp only [Act.put, List.setIfInBounds_toArray, List.set_cons_zero, List.set_cons_succ, List.getElem_toArray, List.getElem_cons_zero, List.getElem_cons_succ]
    refine wpAnyH_ready (rs := [8]) (by kernel_rfl) (by simp) ?_
    refine AllReadyH.cons rfl (fun K hK => ?_) AllReadyH.nil
    rw [if_pos (by rfl)]
    refine oper_exec _ _ (exec_append2 _ _ (.tmp 120) (.tmp 124) 27 3 rfl _ _ _ _ _ rfl rfl E3.out) ?_
    refine hK.out _ _ k27 (fun _ => ?_)
    clear hK K
    try simp only [Act.put, List.setIfInBounds_toArray, List.set_cons_zero, List.set_cons_succ, List.getElem_toArray, List.getElem_cons_zero, List.getElem_cons_succ]
    refine wpAnyH_ready (rs := [9]) (by kernel_rfl) (by simp) ?_
    refine AllReadyH.cons rfl (fun K hK => ?_) AllReadyH.nil
    go_simp

    refine hK.out _ _ k28 (fun _ => ?_)
    clear hK K
    try simp only [Act.put, List.setIfInBounds_toArray, List.set_cons_zero, List.set_cons_succ, List.getElem_toArray, List.getElem_cons_zero, List.getElem_cons_succ]
    refine wpAnyH_ready (rs := [10]) (by kernel_rfl) (by simp) ?_
    refine AllReadyH.cons rfl (fun K hK => ?_) AllReadyH.nil
    rw [if_pos (by rfl)]
    refine oper_exec _ _ (exec_append _ _ (.tmp 117) (.tmp 126) 26 rfl _ _ _ _ _ rfl rfl E4.out) ?_
    refine hK.out _ _ k29 (fun _ => ?_)
    clear hK K
    try simp only [Act.put, List.setIfInBounds_toArray, List.set_cons_zero, List.set_cons_succ, List.getElem_toArray, List.getElem_cons_zero, List.getElem_cons_succ]
    refine wpAnyH_take (i := 11) (v := .slice a2 (m + 1) c2) rfl (by kernel_rfl) (by kernel_rfl) (by kernel_rfl) (fun _ _ _ h => HQ.out _ _ _ _ _ h) (Or.inl ⟨by rfl, ?yz11⟩) (by assumption) ?rz11
    case yz11 => (intro wq hSw; (try simp only [List.getElem_toArray, List.getElem_cons_zero, List.getElem_cons_succ]); go_simp; (try with_reducible rfl); all_goals (try omega))
    case rz11 =>
    try simp only [Act.put, List.setIfInBounds_toArray, List.set_cons_zero, List.set_cons_succ, List.getElem_toArray, List.getElem_cons_zero, List.getElem_cons_succ]
    refine wpAnyH_done (by kernel_rfl) ?_ _
    clear hHeld
    have HSL := Lib.hid (show d.safe = (({ d with wet := d.wet ++ [(p, pad64 ps)] } : DiskM).act).safe from (DiskM.act_same ({ d with wet := d.wet ++ [(p, pad64 ps)] } : DiskM)).1.symm)
    have HWL := Lib.hid (show (d.wet ++ [(p, pad64 ps)]) = (({ d with wet := d.wet ++ [(p, pad64 ps)] } : DiskM).act).wet from (DiskM.act_same ({ d with wet := d.wet ++ [(p, pad64 ps)] } : DiskM)).2.1.symm)
    have HM := Lib.hid (show (({ d with wet := d.wet ++ [(p, pad64 ps)] } : DiskM).act).wet.length = m + 1 from by rw [(DiskM.act_same _).2.1]; show (d.wet ++ [(p, pad64 ps)]).length = m + 1; rw [List.length_append, HM0.out]; rfl)
    have HO := Lib.hid (show (({ d with wet := d.wet ++ [(p, pad64 ps)] } : DiskM).act).off = false from OO.out)
    have HA := Lib.hid (show (((({ d with wet := d.wet ++ [(p, pad64 ps)] } : DiskM).act).acts : Nat) : Int) = (cA : Int) + 1 from by rw [(DiskM.act_same _).2.2.1]; show ((d.acts + 1 : Nat) : Int) = _; rw [HCA.out]; simp)
    have HLF := Lib.hid (show leftI (({ d with wet := d.wet ++ [(p, pad64 ps)] } : DiskM).act) = (l : Int) from LL.out)
    have HB3 := Lib.hid (show m + 1 ≤ m + 1 ∧ (({ d with wet := d.wet ++ [(p, pad64 ps)] } : DiskM).act).acts ≤ cA + 1 ∧ (({ d with wet := d.wet ++ [(p, pad64 ps)] } : DiskM).act).left ≤ 8 from ⟨Nat.le_refl _, by rw [(DiskM.act_same _).2.2.1]; show d.acts + 1 ≤ _; rw [HCA.out]; exact Nat.le_refl _, by have := act_left9 ({ d with wet := d.wet ++ [(p, pad64 ps)] } : DiskM); have h9 : ({ d with wet := d.wet ++ [(p, pad64 ps)] } : DiskM).left = d.left := rfl; omega⟩)
    obtain ⟨q1, q2, q3, q4⟩ := HR.out.tells HM.out HO.out HA.out
    have Q1 := Lib.hid q1
    have Q2 := Lib.hid q2
    have Q3 := Lib.hid q3
    have Q4 := Lib.hid q4
    clear q1 q2 q3 q4
    go_wp2_with fail
    refine Q1.out.mono ?_
    rintro e w81 ⟨rfl, rfl⟩
    go_wp2_with fail
    refine Q2.out.mono ?_
    rintro e w82 ⟨rfl, rfl⟩
    go_wp2_with fail
    refine Q3.out.mono ?_
    rintro e w83 ⟨rfl, rfl⟩
    go_wp2_with fail
    refine Q4.out.mono ?_
    rintro e w84 ⟨rfl, rfl⟩
    go_wp2_with fail
    refine plays_sectors a1 a2 (m + 1) c1 c2 k sc SB D false (numsOf (({ d with wet := d.wet ++ [(p, pad64 ps)] } : DiskM).act).wet) (us ++ [.slice (some ⟨g9, 0, none⟩) 64 c9]) vs _ (fun s => (({ d with wet := d.wet ++ [(p, pad64 ps)] } : DiskM).act).last s) _ _ _ _ _ _ _ _ _ _ _ _ _ _ _ _ _ _ _ _ _ _ _ _ _ _ _ _ _ _ _ _ _ _ _ _ _ _ _ _ _ _ _ _ _ _ _ _ _ _ _ _ _ _ _ _ _ _ _ _ _ _ _ _ _ _ _ _ _ _ _ _ _ _ _ _ _ _ _ _ _ _ _ _ _ _ _ _ _ _ _ _ _ _ _ _ _ _ _ _ _ _ _ _ _ _ _ _ _ _ _ _ _ _ _ _ _ _ _ _ _ _ _ _ _ _ _ _ _ _ _ _ _ _ _ _ _ _ _ _ _ _ _ _ _ _ _ _ _ _ _ _ _ _ _ _ _ _ _ _ _ _ _ _ _ _ _ _ _ _ _ _ _ _ _ _ _ _ _ _ _ _ _ _ _ _ _ _ _ _ _ _ _ _ _ _ _ _ _ _ _ _ _ _ _ _ _ _ _ _ _ _ _ _ _ _ _ _ _ _ _ _ _ _ _ _ _ _ _ _ _ _ _ _ _ _ _ _ _ _ _ _ _ _ _ _ _ _ _ _ _ _ _ _ _ _ _ _ _ _ _ _ _ _ _ _ _ _ _ _ _ _ _ _ _ _ _ _ _ _ _ _ _ _ _ _ _ _ _ _ _ _ _ _ _ _ _ _ _ _ (by omega) hk (HR.out.nums' HWL.out HM.out) (HR.out.vals' HWL.out HM.out) (HR.out.slicesM HWL.out HM.out) HR.out.sv HR.out.vl HR.out.slices' (HR.out.wants HSL.out HWL.out HM.out) HR.out.lasts (HR.out.reads HO.out (by rw [HM.out]; omega)) ?_
    intro _ _ _ _ _ _ _ _ _ _ _ _ _ _ _ _ _ _ _ _ _ _ _ _ _ _ _ _ _ _ _ _ _ _ _ _ _ _ _ _ _ _ _ _ _ _ _ _ _ _ _ _ _ _ _ _ _ w85 T85
    have HRZ := Lib.hid (HR.out.calm T85)
    clear T85
    go_wp2_with fail
    exact HE.out _ _ _ _ _ _ _ _ _ _ _ _ _ _ _ _ _ _ _ _ _ _ _ _ _ _ _ _ _ _ _ _ _ _ _ _ _ _ _ _ _ _ _ _ _ _ _ _ _ _ _ _ _ _ _ _ _ _ _ _ _ _ _ _ _ _ _ _ _ _ _ _ _ _ _ _ _ _ _ _ _ _ _ _ _ _ _ _ _ _ _ _ _ _ _ _ _ _ _ _ _ _ _ _ _ _ _ _ _ _ _ _ _ _ _ _ _ _ _ _ _ _ _ _ _ _ _ _ _ _ _ _ _ _ _ _ _ _ _ _ _ _ _ _ _ _ _ _ _ _ _ _ _ _ _ _ _ _ _ _ _ _ _ _ _ _ _ _ _ _ _ _ _ _ _ _ _ _ _ _ _ _ _ _ _ _ _ _ _ _ _ _ _ _ _ _ _ _ _ _ _ _ _ _ _ _ _ _ _ _ _ _ _ _ _ _ _ _ _ _ _ _ _ _ _ _ _ _ _ _ _ _ _ _ _ _ _ _ _ _ _ _ _ _ _ _ _ _ _ _ _ _ _ _ _ _ _ _ _ _ _ _ _ _ _ _ _ (({ d with wet := d.wet ++ [(p, pad64 ps)] } : DiskM).act) _ _ _ _ a1 a2 c1 c2 (m + 1) ((l : Int)) false ((cA : Int) + 1) w85 (RSt.fix HRZ.out HSL.out HWL.out) HM.out HB3.out.1 HB3.out.2.1 HB3.out.2.2 HLF.out HO.out HA.out
end Go.Proofs.Ytckeackepolhdaa
