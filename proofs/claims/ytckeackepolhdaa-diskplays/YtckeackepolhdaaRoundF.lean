/- Own: loops of DiskPlays. No statement is proved here. -/
import Derived.Test.YtckeackepolhdaaHelp2
namespace Go.Proofs.Ytckeackepolhdaa
open Go.RowKit
set_option linter.unusedVariables false
set_option linter.unusedSimpArgs false
set_option maxHeartbeats 4000000 in
set_option maxRecDepth 1000000 in
theorem round_flush (w0 : World) (g o n cp i D k SB sc m cA L pc ca cw : Nat) (aa aw pa : Option Addr) (K At : Int) (ps : List Int) (lf : Int) (off : Bool) (d : DiskM) (F R : Nat → Prop) (vs us : List Value) (c0 c2 c3 c4 c8 c15 c16 c17 c18 c19 c20 c21 c22 c23 c24 c25 c26 c27 c28 c29 c30 c31 c32 c33 c34 c35 c36 c37 c38 c39 c40 c41 c42 c43 c44 c45 c46 c47 c48 c49 c50 c51 c52 c53 c54 c55 c56 c57 c58 c59 c60 c61 c62 c63 c64 c65 c66 c67 c68 c69 c70 c71 c72 c73 c74 c75 c76 c77 c78 c79 c80 c81 c82 c83 c84 c85 c86 c87 c88 c89 c90 c91 c92 c93 c94 c95 c96 c97 c98 c99 c100 c101 c102 c103 c104 c105 c106 c107 c108 c109 c110 c111 c112 c113 c114 c115 c116 c117 c118 c119 c120 c121 c122 c123 c124 c125 c126 c127 c128 c129 c130 c131 c132 c133 c134 c135 c136 c137 c138 c139 c140 c141 c142 c143 c144 c145 c146 c147 c148 c149 c150 c151 c152 c153 c154 c155 c156 c157 c158 c159 c160 c161 c162 c163 c164 c165 c166 c167 c168 c169 c170 c171 c172 c173 c174 c175 c176 c177 c178 c179 c180 c181 c182 c183 c184 c185 c186 c187 c188 c189 c190 c191 c192 c193 c194 c195 c196 c197 c198 c199 c200 c201 c202 c203 c204 c205 c206 c207 c208 c209 c210 c211 c212 c213 c214 c215 c216 c217 c218 c219 c220 c221 c222 c223 c224 c225 c226 c227 c228 c229 c230 c231 c232 c233 c234 c235 c236 c237 c238 c239 c240 c241 c242 c243 c244 c245 c246 c247 c248 c249 c250 c251 c252 c253 c254 c255 c256 c257 c258 c259 c260 c261 c262 c263 c264 c265 c266 c267 c268 c269 c270 c271 c272 c273 c274 c275 c276 c277 c278 c279 c280 c281 c282 c283 c284 c285 c286 c287 c288 c289 c290 c291 c292 c293 c294 c295 c296 c297 c298 c299 c300 c301 c302 c303 c304 : Value) (w : World) (Q0 : Exit → Act → World → Prop)
    (hQ : ∀ e d v a w, Q0 (.panic e) (Act.put a d v) w → Q0 (.panic e) a w)
    (hk : k ≤ 1000) (hn : n ≤ 40) (hi : i < n) (hact : ActAt w0 g o i (.slice pa L pc) ⟨K, At, ps⟩) (hps : ps.length = L) (hL80 : L ≤ 80) (hK : K.toNat % 8 = 5)
    (hst : RSt w0 w D k SB d F R vs (.slice aa m ca) (.slice aw m cw) us d.safe d.wet) (hm : d.wet.length = m) (hm40 : m ≤ 40) (hcA : d.acts = cA) (hcA40 : cA ≤ 40) (hlf : leftI d = lf) (hl8 : d.left ≤ 8) (hoff : d.off = off)
    (hexit : ∀ (u4 u15 u16 u17 u18 u19 u20 u21 u22 u23 u24 u49 u50 u51 u52 u53 u54 u55 u56 u57 u58 u59 u60 u61 u62 u63 u64 u65 u66 u67 u68 u69 u70 u71 u72 u73 u74 u75 u76 u77 u78 u79 u80 u81 u82 u83 u84 u85 u86 u87 u88 u89 u90 u91 u92 u93 u94 u95 u96 u97 u98 u99 u100 u101 u102 u103 u104 u105 u106 u107 u108 u109 u110 u111 u112 u113 u114 u115 u116 u117 u118 u119 u120 u121 u122 u123 u124 u125 u126 u127 u128 u129 u130 u131 u132 u133 u134 u135 u136 u137 u138 u139 u140 u141 u142 u143 u144 u145 u146 u147 u148 u149 u150 u151 u152 u153 u154 u155 u156 u157 u158 u159 u160 u161 u162 u163 u164 u165 u166 u167 u168 u169 u170 u171 u172 u173 u174 u175 u176 u177 u178 u179 u180 u181 u182 u183 u184 u185 u186 u187 u188 u189 u190 u191 u192 u193 u194 u195 u196 u197 u198 u199 u200 u201 u202 u203 u204 u205 u206 u207 u208 u209 u210 u211 u212 u213 u214 u215 u216 u217 u218 u219 u220 u221 u222 u223 u224 u225 u226 u227 u228 u229 u230 u231 u232 u233 u234 u235 u236 u237 u238 u239 u240 u241 u242 u243 u244 u245 u246 u247 u248 u249 u250 u251 u252 u253 u254 u255 u256 u257 u258 u259 u260 u261 u262 u263 u264 u265 u266 u267 u268 u269 u270 u271 u272 u273 u274 u275 u276 u277 u278 u279 u280 u281 u282 u283 u284 u285 u286 u287 u288 u289 u290 u291 u292 u293 u294 u295 u296 u297 u298 u299 u300 u301 u302 u303 u304 : Value) (d' : DiskM) (F' R' : Nat → Prop) (vs' us' : List Value) (aa' aw' : Option Addr) (ca' cw' m' : Nat) (lf' : Int) (of' : Bool) (cA' : Int) (w' : World), RSt w0 w' D k SB d' F' R' vs' (.slice aa' m' ca') (.slice aw' m' cw') us' d'.safe d'.wet → d'.wet.length = m' → m' ≤ m + 1 → d'.acts ≤ cA + 1 → d'.left ≤ 8 → leftI d' = lf' → d'.off = of' → (d'.acts : Int) = cA' → Q0 .normal ⟨List.toArray (c0 :: (.slice (some ⟨g, o, none⟩) n cp) :: c2 :: c3 :: u4 :: (.int .i64 (k : Int)) :: (.pointer (some ⟨D, 0, none⟩)) :: (.slice (some ⟨SB, 0, none⟩) k sc) :: c8 :: (.slice aa' m' ca') :: (.slice aw' m' cw') :: (.int .i64 lf') :: (.bool of') :: (.int .i64 cA') :: (.int .i64 ((i : Int) + 1)) :: u15 :: u16 :: u17 :: u18 :: u19 :: u20 :: u21 :: u22 :: u23 :: u24 :: c25 :: c26 :: c27 :: c28 :: c29 :: c30 :: c31 :: c32 :: c33 :: c34 :: c35 :: c36 :: c37 :: c38 :: c39 :: c40 :: c41 :: c42 :: c43 :: c44 :: c45 :: c46 :: c47 :: c48 :: u49 :: u50 :: u51 :: u52 :: u53 :: u54 :: u55 :: u56 :: u57 :: u58 :: u59 :: u60 :: u61 :: u62 :: u63 :: u64 :: u65 :: u66 :: u67 :: u68 :: u69 :: u70 :: u71 :: u72 :: u73 :: u74 :: u75 :: u76 :: u77 :: u78 :: u79 :: u80 :: u81 :: u82 :: u83 :: u84 :: u85 :: u86 :: u87 :: u88 :: u89 :: u90 :: u91 :: u92 :: u93 :: u94 :: u95 :: u96 :: u97 :: u98 :: u99 :: u100 :: u101 :: u102 :: u103 :: u104 :: u105 :: u106 :: u107 :: u108 :: u109 :: u110 :: u111 :: u112 :: u113 :: u114 :: u115 :: u116 :: u117 :: u118 :: u119 :: u120 :: u121 :: u122 :: u123 :: u124 :: u125 :: u126 :: u127 :: u128 :: u129 :: u130 :: u131 :: u132 :: u133 :: u134 :: u135 :: u136 :: u137 :: u138 :: u139 :: u140 :: u141 :: u142 :: u143 :: u144 :: u145 :: u146 :: u147 :: u148 :: u149 :: u150 :: u151 :: u152 :: u153 :: u154 :: u155 :: u156 :: u157 :: u158 :: u159 :: u160 :: u161 :: u162 :: u163 :: u164 :: u165 :: u166 :: u167 :: u168 :: u169 :: u170 :: u171 :: u172 :: u173 :: u174 :: u175 :: u176 :: u177 :: u178 :: u179 :: u180 :: u181 :: u182 :: u183 :: u184 :: u185 :: u186 :: u187 :: u188 :: u189 :: u190 :: u191 :: u192 :: u193 :: u194 :: u195 :: u196 :: u197 :: u198 :: u199 :: u200 :: u201 :: u202 :: u203 :: u204 :: u205 :: u206 :: u207 :: u208 :: u209 :: u210 :: u211 :: u212 :: u213 :: u214 :: u215 :: u216 :: u217 :: u218 :: u219 :: u220 :: u221 :: u222 :: u223 :: u224 :: u225 :: u226 :: u227 :: u228 :: u229 :: u230 :: u231 :: u232 :: u233 :: u234 :: u235 :: u236 :: u237 :: u238 :: u239 :: u240 :: u241 :: u242 :: u243 :: u244 :: u245 :: u246 :: u247 :: u248 :: u249 :: u250 :: u251 :: u252 :: u253 :: u254 :: u255 :: u256 :: u257 :: u258 :: u259 :: u260 :: u261 :: u262 :: u263 :: u264 :: u265 :: u266 :: u267 :: u268 :: u269 :: u270 :: u271 :: u272 :: u273 :: u274 :: u275 :: u276 :: u277 :: u278 :: u279 :: u280 :: u281 :: u282 :: u283 :: u284 :: u285 :: u286 :: u287 :: u288 :: u289 :: u290 :: u291 :: u292 :: u293 :: u294 :: u295 :: u296 :: u297 :: u298 :: u299 :: u300 :: u301 :: u302 :: u303 :: u304 :: []), []⟩ w') :
    Code.wp Try.prog (playBody 1) Q0 ⟨List.toArray (c0 :: (.slice (some ⟨g, o, none⟩) n cp) :: c2 :: c3 :: c4 :: (.int .i64 (k : Int)) :: (.pointer (some ⟨D, 0, none⟩)) :: (.slice (some ⟨SB, 0, none⟩) k sc) :: c8 :: (.slice aa m ca) :: (.slice aw m cw) :: (.int .i64 lf) :: (.bool off) :: (.int .i64 (cA : Int)) :: (.int .i64 (i : Int)) :: c15 :: c16 :: c17 :: c18 :: c19 :: c20 :: c21 :: c22 :: c23 :: c24 :: c25 :: c26 :: c27 :: c28 :: c29 :: c30 :: c31 :: c32 :: c33 :: c34 :: c35 :: c36 :: c37 :: c38 :: c39 :: c40 :: c41 :: c42 :: c43 :: c44 :: c45 :: c46 :: c47 :: c48 :: c49 :: c50 :: c51 :: c52 :: c53 :: c54 :: c55 :: c56 :: c57 :: c58 :: c59 :: c60 :: c61 :: c62 :: c63 :: c64 :: c65 :: c66 :: c67 :: c68 :: c69 :: c70 :: c71 :: c72 :: c73 :: c74 :: c75 :: c76 :: c77 :: c78 :: c79 :: c80 :: c81 :: c82 :: c83 :: c84 :: c85 :: c86 :: c87 :: c88 :: c89 :: c90 :: c91 :: c92 :: c93 :: c94 :: c95 :: c96 :: c97 :: c98 :: c99 :: c100 :: c101 :: c102 :: c103 :: c104 :: c105 :: c106 :: c107 :: c108 :: c109 :: c110 :: c111 :: c112 :: c113 :: c114 :: c115 :: c116 :: c117 :: c118 :: c119 :: c120 :: c121 :: c122 :: c123 :: c124 :: c125 :: c126 :: c127 :: c128 :: c129 :: c130 :: c131 :: c132 :: c133 :: c134 :: c135 :: c136 :: c137 :: c138 :: c139 :: c140 :: c141 :: c142 :: c143 :: c144 :: c145 :: c146 :: c147 :: c148 :: c149 :: c150 :: c151 :: c152 :: c153 :: c154 :: c155 :: c156 :: c157 :: c158 :: c159 :: c160 :: c161 :: c162 :: c163 :: c164 :: c165 :: c166 :: c167 :: c168 :: c169 :: c170 :: c171 :: c172 :: c173 :: c174 :: c175 :: c176 :: c177 :: c178 :: c179 :: c180 :: c181 :: c182 :: c183 :: c184 :: c185 :: c186 :: c187 :: c188 :: c189 :: c190 :: c191 :: c192 :: c193 :: c194 :: c195 :: c196 :: c197 :: c198 :: c199 :: c200 :: c201 :: c202 :: c203 :: c204 :: c205 :: c206 :: c207 :: c208 :: c209 :: c210 :: c211 :: c212 :: c213 :: c214 :: c215 :: c216 :: c217 :: c218 :: c219 :: c220 :: c221 :: c222 :: c223 :: c224 :: c225 :: c226 :: c227 :: c228 :: c229 :: c230 :: c231 :: c232 :: c233 :: c234 :: c235 :: c236 :: c237 :: c238 :: c239 :: c240 :: c241 :: c242 :: c243 :: c244 :: c245 :: c246 :: c247 :: c248 :: c249 :: c250 :: c251 :: c252 :: c253 :: c254 :: c255 :: c256 :: c257 :: c258 :: c259 :: c260 :: c261 :: c262 :: c263 :: c264 :: c265 :: c266 :: c267 :: c268 :: c269 :: c270 :: c271 :: c272 :: c273 :: c274 :: c275 :: c276 :: c277 :: c278 :: c279 :: c280 :: c281 :: c282 :: c283 :: c284 :: c285 :: c286 :: c287 :: c288 :: c289 :: c290 :: c291 :: c292 :: c293 :: c294 :: c295 :: c296 :: c297 :: c298 :: c299 :: c300 :: c301 :: c302 :: c303 :: c304 :: []), []⟩ w := by
  have HE := Lib.hid hexit
  have HQ := Lib.hid hQ
  have hKb := hact.kOk
  have hAb := hact.atOk
  have hg0 : g < w0.heap.size := World.block_lt_of_cell? w0 _ hact.kind
  have a0 : w.cell? ⟨g, o + i * 3, none⟩ = some (.int .u8 K) := (hst.turn.cell (p := ⟨g, _, none⟩) hg0 id).trans hact.kind
  have a1 : w.cell? ⟨g, o + i * 3 + 1, none⟩ = some (.int .i64 At) := (hst.turn.cell (p := ⟨g, _, none⟩) hg0 id).trans hact.place
  have a2 : w.cell? ⟨g, o + i * 3 + 2, none⟩ = some (.slice pa L pc) := (hst.turn.cell (p := ⟨g, _, none⟩) hg0 id).trans hact.bytes
  obtain ⟨w3, hw3⟩ : ∃ w3, w.alloc (.cells #[.int .u8 K, .int .i64 At, .slice pa L pc] 30) = w3 := ⟨_, rfl⟩
  obtain ⟨AB, hAB⟩ : ∃ AB, w.heap.size = AB := ⟨_, rfl⟩
  have T3 : Turn (fun _ => False) w w3 := by rw [← hw3]; exact (Turn.refl _ w).alloc _
  have hbx : w3.heap[AB]? = some (.cells #[.int .u8 K, .int .i64 At, .slice pa L pc] 30 (0, 0)) := by rw [← hw3, ← hAB]; exact heap_alloc_new w _
  have k0 : w3.cell? ⟨AB, 0, none⟩ = some (.int .u8 K) := cell_of_row w3 AB 0 _ 30 (0, 0) hbx
  have k1 : w3.cell? ⟨AB, 1, none⟩ = some (.int .i64 At) := cell_of_row w3 AB 1 _ 30 (0, 0) hbx
  have k2 : w3.cell? ⟨AB, 2, none⟩ = some (.slice pa L pc) := cell_of_row w3 AB 2 _ 30 (0, 0) hbx
  have HS := Lib.hid (hst.calm T3)
  have hABl : AB < w3.heap.size := World.block_lt_of_cell? w3 _ k2
  have HAB := Lib.hid (show w0.heap.size ≤ AB ∧ ¬ F AB ∧ AB ≠ SB ∧ (Value.slice aa m ca).ownBlock ≠ some AB ∧ (Value.slice aw m cw).ownBlock ≠ some AB from
    ⟨by have := hst.turn.size; omega, fun h => by have := (hst.fl AB h).1; omega, fun h => by have := hst.sv.lt; omega, fun h => by have := (hst.ra.lt AB h).2; omega, fun h => by have := (hst.rb.lt AB h).2; omega⟩)
  have HSRC := Lib.hid hact.src
  have HOLD := Lib.hid hact.old
  have HBOK := Lib.hid hact.ok
  have HPS := Lib.hid hps
  have hiI : (i : Int) < (n : Int) := by omega
  obtain ⟨kk, rfl⟩ := Int.eq_ofNat_of_zero_le hKb.1
  have HM0 := Lib.hid hm
  have HCA := Lib.hid hcA
  have HLF0 := Lib.hid hlf
  have HOF0 := Lib.hid hoff
  have hL80I : ¬ ((80 : Int) < (L : Int)) := by omega
  obtain ⟨S0, dsc0, wv0, hd0⟩ := (hst.calm T3).disk
  have HD0 := Lib.hid hd0
  have HKL := Lib.hid hst.klen
  clear hexit hQ hact hst T3 hbx hm hcA hlf hoff hd0 hps
  have hK : kk % 8 = 5 := by simpa using hK
  have r1 : (kk : Int) % 8 = 5 := by omega
  have r2 : Int.tmod (kk : Int) 8 = 5 := by rw [Int.tmod_eq_emod_of_nonneg (by omega)]; exact r1
  clear hK
  conv => arg 2; whnf
  cases off with
  | true =>
    go_wp2_with fail
    refine (flush_off w3 F D S0 dsc0 wv0 d HD0.out HOF0.out).mono ?_
    rintro e w4 ⟨rfl, rfl⟩
    have HSL := Lib.hid (show d.safe = (d).safe from rfl)
    have HWL := Lib.hid (show d.wet = (d).wet from rfl)
    have HM := Lib.hid (show (d).wet.length = m from HM0.out)
    have HO := Lib.hid (show (d).off = true from HOF0.out)
    have HA := Lib.hid (show (((d).acts : Nat) : Int) = (cA : Int) from by rw [HCA.out])
    have HLF := Lib.hid (show leftI (d) = lf from HLF0.out)
    have HB3 := Lib.hid (show m ≤ m + 1 ∧ (d).acts ≤ cA + 1 ∧ (d).left ≤ 8 from ⟨by omega, by rw [HCA.out]; omega, hl8⟩)
    have HR := HS
    obtain ⟨q1, q2, q3, q4⟩ := HR.out.tells HM.out HO.out HA.out
    have Q1 := Lib.hid q1
    have Q2 := Lib.hid q2
    have Q3 := Lib.hid q3
    have Q4 := Lib.hid q4
    clear q1 q2 q3 q4
    go_wp2_with fail
    refine Q1.out.mono ?_
    rintro e w81 ⟨rfl, rfl⟩
    go_wp2_with fail
    refine Q2.out.mono ?_
    rintro e w82 ⟨rfl, rfl⟩
    go_wp2_with fail
    refine Q3.out.mono ?_
    rintro e w83 ⟨rfl, rfl⟩
    go_wp2_with fail
    refine Q4.out.mono ?_
    rintro e w84 ⟨rfl, rfl⟩
    go_wp2_with fail
    refine plays_sectors aa aw m ca cw k sc SB D true (numsOf (d).wet) us vs _ (fun s => (d).last s) _ _ _ _ _ _ _ _ _ _ _ _ _ _ _ _ _ _ _ _ _ _ _ _ _ _ _ _ _ _ _ _ _ _ _ _ _ _ _ _ _ _ _ _ _ _ _ _ _ _ _ _ _ _ _ _ _ _ _ _ _ _ _ _ _ _ _ _ _ _ _ _ _ _ _ _ _ _ _ _ _ _ _ _ _ _ _ _ _ _ _ _ _ _ _ _ _ _ _ _ _ _ _ _ _ _ _ _ _ _ _ _ _ _ _ _ _ _ _ _ _ _ _ _ _ _ _ _ _ _ _ _ _ _ _ _ _ _ _ _ _ _ _ _ _ _ _ _ _ _ _ _ _ _ _ _ _ _ _ _ _ _ _ _ _ _ _ _ _ _ _ _ _ _ _ _ _ _ _ _ _ _ _ _ _ _ _ _ _ _ _ _ _ _ _ _ _ _ _ _ _ _ _ _ _ _ _ _ _ _ _ _ _ _ _ _ _ _ _ _ _ _ _ _ _ _ _ _ _ _ _ _ _ _ _ _ _ _ _ _ _ _ _ _ _ _ _ _ _ _ _ _ _ _ _ _ _ _ _ _ _ _ _ _ _ _ _ _ _ _ _ _ _ _ _ _ _ _ _ _ _ _ _ _ _ _ _ _ _ _ _ _ _ _ _ _ _ _ _ _ (by omega) hk (HR.out.nums' rfl HM.out) (HR.out.vals' rfl HM.out) (HR.out.slicesM rfl HM.out) HR.out.sv HR.out.vl HR.out.slices' (HR.out.wants rfl rfl HM.out) HR.out.lasts (HR.out.reads HO.out (by rw [HM.out]; omega)) ?_
    intro _ _ _ _ _ _ _ _ _ _ _ _ _ _ _ _ _ _ _ _ _ _ _ _ _ _ _ _ _ _ _ _ _ _ _ _ _ _ _ _ _ _ _ _ _ _ _ _ _ _ _ _ _ _ _ _ _ w85 T85
    have HRZ := Lib.hid (HR.out.calm T85)
    clear T85
    go_wp2_with fail
    exact HE.out _ _ _ _ _ _ _ _ _ _ _ _ _ _ _ _ _ _ _ _ _ _ _ _ _ _ _ _ _ _ _ _ _ _ _ _ _ _ _ _ _ _ _ _ _ _ _ _ _ _ _ _ _ _ _ _ _ _ _ _ _ _ _ _ _ _ _ _ _ _ _ _ _ _ _ _ _ _ _ _ _ _ _ _ _ _ _ _ _ _ _ _ _ _ _ _ _ _ _ _ _ _ _ _ _ _ _ _ _ _ _ _ _ _ _ _ _ _ _ _ _ _ _ _ _ _ _ _ _ _ _ _ _ _ _ _ _ _ _ _ _ _ _ _ _ _ _ _ _ _ _ _ _ _ _ _ _ _ _ _ _ _ _ _ _ _ _ _ _ _ _ _ _ _ _ _ _ _ _ _ _ _ _ _ _ _ _ _ _ _ _ _ _ _ _ _ _ _ _ _ _ _ _ _ _ _ _ _ _ _ _ _ _ _ _ _ _ _ _ _ _ _ _ _ _ _ _ _ _ _ _ _ _ _ _ _ _ _ _ _ _ _ _ _ _ _ _ _ _ _ _ _ _ _ _ _ _ _ _ _ _ _ _ _ _ _ _ (d) _ _ _ _ aa aw ca cw m (lf) true ((cA : Int)) w85 HRZ.out HM.out HB3.out.1 HB3.out.2.1 HB3.out.2.2 HLF.out HO.out HA.out
  | false =>
    rcases arm_cases d with ⟨ha, l1, e1, l2, o2⟩ | ⟨ha, l1, e1, l2, o2⟩ | ⟨l, ha, hl, l1, e1, l2, o2⟩
    · obtain rfl : lf = -1 := HLF0.out.symm.trans l1
      go_wp2_with fail
      refine (flush_good w3 F D S0 dsc0 wv0 d HD0.out HOF0.out e1 (by rw [HCA.out]; omega) (by omega) (by rw [HM0.out]; omega)).mono ?_
      rintro e w4 ⟨rfl, hd4, T4⟩
      obtain ⟨F4, hr4⟩ := HS.out.act hd4 (grown_refl _ _) T4 (by show (keepK d.act.safe d.act.wet _ _).length = k; rw [keepK_len, (DiskM.act_same d).1]; exact HKL.out)
      have HR4 := Lib.hid hr4
      clear hr4 hd4 T4
      go_wp2_with fail
      refine plays_flush aa aw m ca cw k sc SB (numsOf d.wet) us vs _ _ _ _ _ _ _ _ _ _ _ _ _ _ _ _ _ _ _ _ _ _ _ _ _ _ _ _ _ _ _ _ _ _ _ _ _ _ _ _ _ _ _ _ _ _ _ _ _ _ _ _ _ _ _ _ _ _ _ _ _ _ _ _ _ _ _ _ _ _ _ _ _ _ _ _ _ _ _ _ _ _ _ _ _ _ _ _ _ _ _ _ _ _ _ _ _ _ _ _ _ _ _ _ _ _ _ _ _ _ _ _ _ _ _ _ _ _ _ _ _ _ _ _ _ _ _ _ _ _ _ _ _ _ _ _ _ _ _ _ _ _ _ _ _ _ _ _ _ _ _ _ _ _ _ _ _ _ _ _ _ _ _ _ _ _ _ _ _ _ _ _ _ _ _ _ _ _ _ _ _ _ _ _ _ _ _ _ _ _ _ _ _ _ _ _ _ _ _ _ _ _ _ _ _ _ _ _ _ _ _ _ _ _ _ _ _ _ _ _ _ _ _ _ _ _ _ _ _ _ _ _ _ _ _ _ _ _ _ _ _ _ _ _ _ _ _ _ _ _ _ _ _ _ _ _ _ _ _ _ _ _ _ _ _ _ _ _ _ _ _ _ _ _ _ _ _ _ _ _ _ _ _ _ _ _ _ _ _ _ _ _ _ _ _ _ _ _ _ _ _ _ (by omega) hk (HR4.out.nums HM0.out rfl) (HR4.out.vals HM0.out rfl) (fun j hj => HR4.out.slices j (by rw [HM0.out]; exact hj)) (HR4.out.ksM HM0.out) (HR4.out.nas rfl) (HR4.out.nbs rfl) HR4.out.sv HR4.out.vl ?_
      intro _ _ _ _ _ _ _ _ _ _ _ _ _ _ _ _ _ _ _ _ _ wp hV hT
      rw [putV_F, ← HM0.out] at hV
      have HR := Lib.hid ((HR4.out.put (fun _ => true) hV hT).clear)
      clear hV hT
      have HSL := Lib.hid (show keepK d.safe d.wet (fun _ => true) d.wet.length = (d.act.flushed).safe from by show _ = keepK d.act.safe d.act.wet _ d.act.wet.length; rw [(DiskM.act_same d).1, (DiskM.act_same d).2.1])
      have HWL := Lib.hid (show ([] : List (Nat × List Int)) = (d.act.flushed).wet from rfl)
      have HM := Lib.hid (show (d.act.flushed).wet.length = 0 from rfl)
      have HO := Lib.hid (show (d.act.flushed).off = false from o2.trans HOF0.out)
      have HA := Lib.hid (show (((d.act.flushed).acts : Nat) : Int) = (cA : Int) + 1 from by show ((d.act.acts : Nat) : Int) = _; rw [(DiskM.act_same d).2.2.1, HCA.out]; simp)
      have HLF := Lib.hid (show leftI (d.act.flushed) = -1 from l2)
      have HB3 := Lib.hid (show 0 ≤ m + 1 ∧ (d.act.flushed).acts ≤ cA + 1 ∧ (d.act.flushed).left ≤ 8 from ⟨by omega, by show d.act.acts ≤ _; rw [(DiskM.act_same d).2.2.1, HCA.out]; exact Nat.le_refl _, by have := act_left9 d; show d.act.left ≤ 8; omega⟩)
      obtain ⟨q1, q2, q3, q4⟩ := HR.out.tells HM.out HO.out HA.out
      have Q1 := Lib.hid q1
      have Q2 := Lib.hid q2
      have Q3 := Lib.hid q3
      have Q4 := Lib.hid q4
      clear q1 q2 q3 q4
      go_wp2_with fail
      refine Q1.out.mono ?_
      rintro e w81 ⟨rfl, rfl⟩
      go_wp2_with fail
      refine Q2.out.mono ?_
      rintro e w82 ⟨rfl, rfl⟩
      go_wp2_with fail
      refine Q3.out.mono ?_
      rintro e w83 ⟨rfl, rfl⟩
      go_wp2_with fail
      refine Q4.out.mono ?_
      rintro e w84 ⟨rfl, rfl⟩
      go_wp2_with fail
      refine plays_sectors none none 0 0 0 k sc SB D false (numsOf (d.act.flushed).wet) [] (putF vs (numsOf d.wet) us (fun _ => true) d.wet.length) _ (fun s => (d.act.flushed).last s) _ _ _ _ _ _ _ _ _ _ _ _ _ _ _ _ _ _ _ _ _ _ _ _ _ _ _ _ _ _ _ _ _ _ _ _ _ _ _ _ _ _ _ _ _ _ _ _ _ _ _ _ _ _ _ _ _ _ _ _ _ _ _ _ _ _ _ _ _ _ _ _ _ _ _ _ _ _ _ _ _ _ _ _ _ _ _ _ _ _ _ _ _ _ _ _ _ _ _ _ _ _ _ _ _ _ _ _ _ _ _ _ _ _ _ _ _ _ _ _ _ _ _ _ _ _ _ _ _ _ _ _ _ _ _ _ _ _ _ _ _ _ _ _ _ _ _ _ _ _ _ _ _ _ _ _ _ _ _ _ _ _ _ _ _ _ _ _ _ _ _ _ _ _ _ _ _ _ _ _ _ _ _ _ _ _ _ _ _ _ _ _ _ _ _ _ _ _ _ _ _ _ _ _ _ _ _ _ _ _ _ _ _ _ _ _ _ _ _ _ _ _ _ _ _ _ _ _ _ _ _ _ _ _ _ _ _ _ _ _ _ _ _ _ _ _ _ _ _ _ _ _ _ _ _ _ _ _ _ _ _ _ _ _ _ _ _ _ _ _ _ _ _ _ _ _ _ _ _ _ _ _ _ _ _ _ _ _ _ _ _ _ _ _ _ _ _ _ _ _ (by omega) hk (HR.out.nums' HWL.out HM.out) (HR.out.vals' HWL.out HM.out) (HR.out.slicesM HWL.out HM.out) HR.out.sv HR.out.vl HR.out.slices' (HR.out.wants HSL.out HWL.out HM.out) HR.out.lasts (HR.out.reads HO.out (by rw [HM.out]; omega)) ?_
      intro _ _ _ _ _ _ _ _ _ _ _ _ _ _ _ _ _ _ _ _ _ _ _ _ _ _ _ _ _ _ _ _ _ _ _ _ _ _ _ _ _ _ _ _ _ _ _ _ _ _ _ _ _ _ _ _ _ w85 T85
      have HRZ := Lib.hid (HR.out.calm T85)
      clear T85
      go_wp2_with fail
      exact HE.out _ _ _ _ _ _ _ _ _ _ _ _ _ _ _ _ _ _ _ _ _ _ _ _ _ _ _ _ _ _ _ _ _ _ _ _ _ _ _ _ _ _ _ _ _ _ _ _ _ _ _ _ _ _ _ _ _ _ _ _ _ _ _ _ _ _ _ _ _ _ _ _ _ _ _ _ _ _ _ _ _ _ _ _ _ _ _ _ _ _ _ _ _ _ _ _ _ _ _ _ _ _ _ _ _ _ _ _ _ _ _ _ _ _ _ _ _ _ _ _ _ _ _ _ _ _ _ _ _ _ _ _ _ _ _ _ _ _ _ _ _ _ _ _ _ _ _ _ _ _ _ _ _ _ _ _ _ _ _ _ _ _ _ _ _ _ _ _ _ _ _ _ _ _ _ _ _ _ _ _ _ _ _ _ _ _ _ _ _ _ _ _ _ _ _ _ _ _ _ _ _ _ _ _ _ _ _ _ _ _ _ _ _ _ _ _ _ _ _ _ _ _ _ _ _ _ _ _ _ _ _ _ _ _ _ _ _ _ _ _ _ _ _ _ _ _ _ _ _ _ _ _ _ _ _ _ _ _ _ _ _ _ _ _ _ _ _ (d.act.flushed) _ _ _ _ none none 0 0 0 (-1) false ((cA : Int) + 1) w85 (by have := HRZ.out; rw [HSL.out, HWL.out] at this; exact this) HM.out HB3.out.1 HB3.out.2.1 HB3.out.2.2 HLF.out HO.out HA.out
    · obtain rfl : lf = 0 := HLF0.out.symm.trans l1
      go_wp2_with fail
      refine (flush_stop w3 F D S0 dsc0 wv0 d HD0.out HOF0.out e1 (by rw [HCA.out]; omega) (by omega)).mono ?_
      rintro e w4 ⟨rfl, hd4, T4⟩
      obtain ⟨F4, hr4⟩ := HS.out.act hd4 (grown_refl _ _) T4 (by rw [(DiskM.act_same d).1]; exact HKL.out)
      have HR := Lib.hid hr4
      clear hr4 hd4 T4
      go_wp2_with fail
      refine plays_flush_no aa aw m ca cw k sc SB _ _ _ _ _ _ _ _ _ _ _ _ _ _ _ _ _ _ _ _ _ _ _ _ _ _ _ _ _ _ _ _ _ _ _ _ _ _ _ _ _ _ _ _ _ _ _ _ _ _ _ _ _ _ _ _ _ _ _ _ _ _ _ _ _ _ _ _ _ _ _ _ _ _ _ _ _ _ _ _ _ _ _ _ _ _ _ _ _ _ _ _ _ _ _ _ _ _ _ _ _ _ _ _ _ _ _ _ _ _ _ _ _ _ _ _ _ _ _ _ _ _ _ _ _ _ _ _ _ _ _ _ _ _ _ _ _ _ _ _ _ _ _ _ _ _ _ _ _ _ _ _ _ _ _ _ _ _ _ _ _ _ _ _ _ _ _ _ _ _ _ _ _ _ _ _ _ _ _ _ _ _ _ _ _ _ _ _ _ _ _ _ _ _ _ _ _ _ _ _ _ _ _ _ _ _ _ _ _ _ _ _ _ _ _ _ _ _ _ _ _ _ _ _ _ _ _ _ _ _ _ _ _ _ _ _ _ _ _ _ _ _ _ _ _ _ _ _ _ _ _ _ _ _ _ _ _ _ _ _ _ _ _ _ _ _ _ _ _ _ _ _ _ _ _ _ _ _ _ _ _ _ _ _ _ _ _ _ _ _ _ _ _ _ _ _ _ _ _ _ _ _ ?_
      intro _ _ _ _ _ _ _ _ _ _ _ _ _ _ _ _ _ _ _ _ _
      have HSL := Lib.hid (show d.safe = (d.act).safe from (DiskM.act_same d).1.symm)
      have HWL := Lib.hid (show d.wet = (d.act).wet from (DiskM.act_same d).2.1.symm)
      have HM := Lib.hid (show (d.act).wet.length = m from by rw [(DiskM.act_same d).2.1]; exact HM0.out)
      have HO := Lib.hid (show (d.act).off = true from o2)
      have HA := Lib.hid (show (((d.act).acts : Nat) : Int) = (cA : Int) + 1 from by rw [(DiskM.act_same d).2.2.1, HCA.out]; simp)
      have HLF := Lib.hid (show leftI (d.act) = 0 from l2)
      have HB3 := Lib.hid (show m ≤ m + 1 ∧ (d.act).acts ≤ cA + 1 ∧ (d.act).left ≤ 8 from ⟨by omega, by rw [(DiskM.act_same d).2.2.1, HCA.out]; exact Nat.le_refl _, by have := act_left9 d; omega⟩)
      obtain ⟨q1, q2, q3, q4⟩ := HR.out.tells HM.out HO.out HA.out
      have Q1 := Lib.hid q1
      have Q2 := Lib.hid q2
      have Q3 := Lib.hid q3
      have Q4 := Lib.hid q4
      clear q1 q2 q3 q4
      go_wp2_with fail
      refine Q1.out.mono ?_
      rintro e w81 ⟨rfl, rfl⟩
      go_wp2_with fail
      refine Q2.out.mono ?_
      rintro e w82 ⟨rfl, rfl⟩
      go_wp2_with fail
      refine Q3.out.mono ?_
      rintro e w83 ⟨rfl, rfl⟩
      go_wp2_with fail
      refine Q4.out.mono ?_
      rintro e w84 ⟨rfl, rfl⟩
      go_wp2_with fail
      refine plays_sectors aa aw m ca cw k sc SB D true (numsOf (d.act).wet) us vs _ (fun s => (d.act).last s) _ _ _ _ _ _ _ _ _ _ _ _ _ _ _ _ _ _ _ _ _ _ _ _ _ _ _ _ _ _ _ _ _ _ _ _ _ _ _ _ _ _ _ _ _ _ _ _ _ _ _ _ _ _ _ _ _ _ _ _ _ _ _ _ _ _ _ _ _ _ _ _ _ _ _ _ _ _ _ _ _ _ _ _ _ _ _ _ _ _ _ _ _ _ _ _ _ _ _ _ _ _ _ _ _ _ _ _ _ _ _ _ _ _ _ _ _ _ _ _ _ _ _ _ _ _ _ _ _ _ _ _ _ _ _ _ _ _ _ _ _ _ _ _ _ _ _ _ _ _ _ _ _ _ _ _ _ _ _ _ _ _ _ _ _ _ _ _ _ _ _ _ _ _ _ _ _ _ _ _ _ _ _ _ _ _ _ _ _ _ _ _ _ _ _ _ _ _ _ _ _ _ _ _ _ _ _ _ _ _ _ _ _ _ _ _ _ _ _ _ _ _ _ _ _ _ _ _ _ _ _ _ _ _ _ _ _ _ _ _ _ _ _ _ _ _ _ _ _ _ _ _ _ _ _ _ _ _ _ _ _ _ _ _ _ _ _ _ _ _ _ _ _ _ _ _ _ _ _ _ _ _ _ _ _ _ _ _ _ _ _ _ _ _ _ _ _ _ _ _ (by omega) hk (HR.out.nums' HWL.out HM.out) (HR.out.vals' HWL.out HM.out) (HR.out.slicesM HWL.out HM.out) HR.out.sv HR.out.vl HR.out.slices' (HR.out.wants HSL.out HWL.out HM.out) HR.out.lasts (HR.out.reads HO.out (by rw [HM.out]; omega)) ?_
      intro _ _ _ _ _ _ _ _ _ _ _ _ _ _ _ _ _ _ _ _ _ _ _ _ _ _ _ _ _ _ _ _ _ _ _ _ _ _ _ _ _ _ _ _ _ _ _ _ _ _ _ _ _ _ _ _ _ w85 T85
      have HRZ := Lib.hid (HR.out.calm T85)
      clear T85
      go_wp2_with fail
      exact HE.out _ _ _ _ _ _ _ _ _ _ _ _ _ _ _ _ _ _ _ _ _ _ _ _ _ _ _ _ _ _ _ _ _ _ _ _ _ _ _ _ _ _ _ _ _ _ _ _ _ _ _ _ _ _ _ _ _ _ _ _ _ _ _ _ _ _ _ _ _ _ _ _ _ _ _ _ _ _ _ _ _ _ _ _ _ _ _ _ _ _ _ _ _ _ _ _ _ _ _ _ _ _ _ _ _ _ _ _ _ _ _ _ _ _ _ _ _ _ _ _ _ _ _ _ _ _ _ _ _ _ _ _ _ _ _ _ _ _ _ _ _ _ _ _ _ _ _ _ _ _ _ _ _ _ _ _ _ _ _ _ _ _ _ _ _ _ _ _ _ _ _ _ _ _ _ _ _ _ _ _ _ _ _ _ _ _ _ _ _ _ _ _ _ _ _ _ _ _ _ _ _ _ _ _ _ _ _ _ _ _ _ _ _ _ _ _ _ _ _ _ _ _ _ _ _ _ _ _ _ _ _ _ _ _ _ _ _ _ _ _ _ _ _ _ _ _ _ _ _ _ _ _ _ _ _ _ _ _ _ _ _ _ _ _ _ _ _ (d.act) _ _ _ _ aa aw ca cw m (0) true ((cA : Int) + 1) w85 (by have := HRZ.out; rw [HSL.out, HWL.out] at this; exact this) HM.out HB3.out.1 HB3.out.2.1 HB3.out.2.2 HLF.out HO.out HA.out
    · obtain rfl : lf = (l : Int) + 1 := HLF0.out.symm.trans l1
      have p1 : (((l : Int) + 1) == 0) = false := by rw [beq_eq_false_iff_ne]; omega
      have p2 : ¬ ((l : Int) + 1 = 0) := by omega
      have p3 : (0 : Int) < (l : Int) + 1 := by omega
      have p4 : l ≤ 8 := by omega
      go_wp2_with fail
      refine (flush_good w3 F D S0 dsc0 wv0 d HD0.out HOF0.out e1 (by rw [HCA.out]; omega) (by omega) (by rw [HM0.out]; omega)).mono ?_
      rintro e w4 ⟨rfl, hd4, T4⟩
      obtain ⟨F4, hr4⟩ := HS.out.act hd4 (grown_refl _ _) T4 (by show (keepK d.act.safe d.act.wet _ _).length = k; rw [keepK_len, (DiskM.act_same d).1]; exact HKL.out)
      have HR4 := Lib.hid hr4
      clear hr4 hd4 T4
      go_wp2_with fail
      refine plays_flush aa aw m ca cw k sc SB (numsOf d.wet) us vs _ _ _ _ _ _ _ _ _ _ _ _ _ _ _ _ _ _ _ _ _ _ _ _ _ _ _ _ _ _ _ _ _ _ _ _ _ _ _ _ _ _ _ _ _ _ _ _ _ _ _ _ _ _ _ _ _ _ _ _ _ _ _ _ _ _ _ _ _ _ _ _ _ _ _ _ _ _ _ _ _ _ _ _ _ _ _ _ _ _ _ _ _ _ _ _ _ _ _ _ _ _ _ _ _ _ _ _ _ _ _ _ _ _ _ _ _ _ _ _ _ _ _ _ _ _ _ _ _ _ _ _ _ _ _ _ _ _ _ _ _ _ _ _ _ _ _ _ _ _ _ _ _ _ _ _ _ _ _ _ _ _ _ _ _ _ _ _ _ _ _ _ _ _ _ _ _ _ _ _ _ _ _ _ _ _ _ _ _ _ _ _ _ _ _ _ _ _ _ _ _ _ _ _ _ _ _ _ _ _ _ _ _ _ _ _ _ _ _ _ _ _ _ _ _ _ _ _ _ _ _ _ _ _ _ _ _ _ _ _ _ _ _ _ _ _ _ _ _ _ _ _ _ _ _ _ _ _ _ _ _ _ _ _ _ _ _ _ _ _ _ _ _ _ _ _ _ _ _ _ _ _ _ _ _ _ _ _ _ _ _ _ _ _ _ _ _ _ _ _ _ _ (by omega) hk (HR4.out.nums HM0.out rfl) (HR4.out.vals HM0.out rfl) (fun j hj => HR4.out.slices j (by rw [HM0.out]; exact hj)) (HR4.out.ksM HM0.out) (HR4.out.nas rfl) (HR4.out.nbs rfl) HR4.out.sv HR4.out.vl ?_
      intro _ _ _ _ _ _ _ _ _ _ _ _ _ _ _ _ _ _ _ _ _ wp hV hT
      rw [putV_F, ← HM0.out] at hV
      have HR := Lib.hid ((HR4.out.put (fun _ => true) hV hT).clear)
      clear hV hT
      have HSL := Lib.hid (show keepK d.safe d.wet (fun _ => true) d.wet.length = (d.act.flushed).safe from by show _ = keepK d.act.safe d.act.wet _ d.act.wet.length; rw [(DiskM.act_same d).1, (DiskM.act_same d).2.1])
      have HWL := Lib.hid (show ([] : List (Nat × List Int)) = (d.act.flushed).wet from rfl)
      have HM := Lib.hid (show (d.act.flushed).wet.length = 0 from rfl)
      have HO := Lib.hid (show (d.act.flushed).off = false from o2.trans HOF0.out)
      have HA := Lib.hid (show (((d.act.flushed).acts : Nat) : Int) = (cA : Int) + 1 from by show ((d.act.acts : Nat) : Int) = _; rw [(DiskM.act_same d).2.2.1, HCA.out]; simp)
      have HLF := Lib.hid (show leftI (d.act.flushed) = (l : Int) from l2)
      have HB3 := Lib.hid (show 0 ≤ m + 1 ∧ (d.act.flushed).acts ≤ cA + 1 ∧ (d.act.flushed).left ≤ 8 from ⟨by omega, by show d.act.acts ≤ _; rw [(DiskM.act_same d).2.2.1, HCA.out]; exact Nat.le_refl _, by have := act_left9 d; show d.act.left ≤ 8; omega⟩)
      obtain ⟨q1, q2, q3, q4⟩ := HR.out.tells HM.out HO.out HA.out
      have Q1 := Lib.hid q1
      have Q2 := Lib.hid q2
      have Q3 := Lib.hid q3
      have Q4 := Lib.hid q4
      clear q1 q2 q3 q4
      go_wp2_with fail
      refine Q1.out.mono ?_
      rintro e w81 ⟨rfl, rfl⟩
      go_wp2_with fail
      refine Q2.out.mono ?_
      rintro e w82 ⟨rfl, rfl⟩
      go_wp2_with fail
      refine Q3.out.mono ?_
      rintro e w83 ⟨rfl, rfl⟩
      go_wp2_with fail
      refine Q4.out.mono ?_
      rintro e w84 ⟨rfl, rfl⟩
      go_wp2_with fail
      refine plays_sectors none none 0 0 0 k sc SB D false (numsOf (d.act.flushed).wet) [] (putF vs (numsOf d.wet) us (fun _ => true) d.wet.length) _ (fun s => (d.act.flushed).last s) _ _ _ _ _ _ _ _ _ _ _ _ _ _ _ _ _ _ _ _ _ _ _ _ _ _ _ _ _ _ _ _ _ _ _ _ _ _ _ _ _ _ _ _ _ _ _ _ _ _ _ _ _ _ _ _ _ _ _ _ _ _ _ _ _ _ _ _ _ _ _ _ _ _ _ _ _ _ _ _ _ _ _ _ _ _ _ _ _ _ _ _ _ _ _ _ _ _ _ _ _ _ _ _ _ _ _ _ _ _ _ _ _ _ _ _ _ _ _ _ _ _ _ _ _ _ _ _ _ _ _ _ _ _ _ _ _ _ _ _ _ _ _ _ _ _ _ _ _ _ _ _ _ _ _ _ _ _ _ _ _ _ _ _ _ _ _ _ _ _ _ _ _ _ _ _ _ _ _ _ _ _ _ _ _ _ _ _ _ _ _ _ _ _ _ _ _ _ _ _ _ _ _ _ _ _ _ _ _ _ _ _ _ _ _ _ _ _ _ _ _ _ _ _ _ _ _ _ _ _ _ _ _ _ _ _ _ _ _ _ _ _ _ _ _ _ _ _ _ _ _ _ _ _ _ _ _ _ _ _ _ _ _ _ _ _ _ _ _ _ _ _ _ _ _ _ _ _ _ _ _ _ _ _ _ _ _ _ _ _ _ _ _ _ _ _ _ _ _ _ (by omega) hk (HR.out.nums' HWL.out HM.out) (HR.out.vals' HWL.out HM.out) (HR.out.slicesM HWL.out HM.out) HR.out.sv HR.out.vl HR.out.slices' (HR.out.wants HSL.out HWL.out HM.out) HR.out.lasts (HR.out.reads HO.out (by rw [HM.out]; omega)) ?_
      intro _ _ _ _ _ _ _ _ _ _ _ _ _ _ _ _ _ _ _ _ _ _ _ _ _ _ _ _ _ _ _ _ _ _ _ _ _ _ _ _ _ _ _ _ _ _ _ _ _ _ _ _ _ _ _ _ _ w85 T85
      have HRZ := Lib.hid (HR.out.calm T85)
      clear T85
      go_wp2_with fail
      exact HE.out _ _ _ _ _ _ _ _ _ _ _ _ _ _ _ _ _ _ _ _ _ _ _ _ _ _ _ _ _ _ _ _ _ _ _ _ _ _ _ _ _ _ _ _ _ _ _ _ _ _ _ _ _ _ _ _ _ _ _ _ _ _ _ _ _ _ _ _ _ _ _ _ _ _ _ _ _ _ _ _ _ _ _ _ _ _ _ _ _ _ _ _ _ _ _ _ _ _ _ _ _ _ _ _ _ _ _ _ _ _ _ _ _ _ _ _ _ _ _ _ _ _ _ _ _ _ _ _ _ _ _ _ _ _ _ _ _ _ _ _ _ _ _ _ _ _ _ _ _ _ _ _ _ _ _ _ _ _ _ _ _ _ _ _ _ _ _ _ _ _ _ _ _ _ _ _ _ _ _ _ _ _ _ _ _ _ _ _ _ _ _ _ _ _ _ _ _ _ _ _ _ _ _ _ _ _ _ _ _ _ _ _ _ _ _ _ _ _ _ _ _ _ _ _ _ _ _ _ _ _ _ _ _ _ _ _ _ _ _ _ _ _ _ _ _ _ _ _ _ _ _ _ _ _ _ _ _ _ _ _ _ _ _ _ _ _ _ (d.act.flushed) _ _ _ _ none none 0 0 0 ((l : Int)) false ((cA : Int) + 1) w85 (by have := HRZ.out; rw [HSL.out, HWL.out] at this; exact this) HM.out HB3.out.1 HB3.out.2.1 HB3.out.2.2 HLF.out HO.out HA.out
end Go.Proofs.Ytckeackepolhdaa
