/- Own: loops of DiskPlays. No statement is proved here. -/
import Derived.Test.YtckeackepolhdaaAdd
namespace Go.Proofs.Ytckeackepolhdaa
open Go.RowKit
set_option linter.unusedVariables false
set_option linter.unusedSimpArgs false
set_option maxHeartbeats 4000000 in
set_option maxRecDepth 1000000 in
theorem plays_flush_no (aa aw : Option Addr) (n ca cw k sc SB : Nat) (c0 c1 c2 c3 c4 c5 c6 c8 c11 c13 c14 c15 c16 c18 c19 c20 c21 c22 c23 c24 c25 c26 c27 c28 c29 c30 c31 c32 c33 c34 c35 c36 c37 c38 c39 c40 c41 c42 c43 c44 c45 c46 c47 c48 c49 c50 c51 c52 c53 c54 c55 c56 c57 c58 c59 c60 c61 c62 c63 c64 c65 c66 c67 c68 c69 c70 c71 c72 c73 c74 c75 c76 c77 c78 c79 c80 c81 c82 c83 c84 c85 c86 c87 c88 c89 c90 c91 c92 c93 c94 c95 c96 c97 c98 c99 c100 c101 c102 c103 c104 c105 c106 c107 c108 c109 c110 c111 c112 c113 c114 c115 c116 c117 c118 c119 c120 c121 c122 c123 c124 c125 c126 c127 c128 c129 c130 c131 c132 c133 c134 c135 c136 c137 c138 c139 c140 c141 c142 c143 c144 c145 c146 c147 c148 c149 c150 c151 c152 c153 c154 c155 c156 c157 c158 c159 c160 c161 c162 c163 c164 c165 c166 c167 c168 c169 c170 c171 c172 c173 c174 c175 c176 c177 c178 c179 c180 c181 c182 c183 c184 c185 c186 c187 c188 c189 c190 c191 c192 c193 c194 c195 c196 c197 c198 c199 c200 c201 c202 c203 c204 c205 c206 c207 c208 c209 c210 c211 c212 c213 c214 c215 c216 c217 c218 c219 c220 c221 c222 c223 c224 c225 c226 c227 c228 c229 c230 c231 c232 c233 c234 c235 c236 c237 c238 c239 c240 c241 c242 c243 c244 c245 c246 c247 c248 c249 c250 c251 c252 c253 c254 c255 c256 c257 c258 c259 c260 c261 c262 c263 c264 c265 c266 c267 c268 c269 c270 c271 c272 c273 c274 c275 c276 c277 c278 c279 c280 c281 c282 c283 c284 c285 c286 c287 c288 c289 c290 c291 c292 c293 c294 c295 c296 c297 c298 c299 c300 c301 c302 c303 c304 : Value) (w : World) (Q0 : Exit → Act → World → Prop)
    (hexit : ∀ (u17 u155 u156 u157 u158 u159 u160 u161 u162 u163 u164 u165 u166 u167 u168 u169 u170 u171 u172 u173 u174 : Value), Q0 (.exit 5) ⟨List.toArray (c0 :: c1 :: c2 :: c3 :: c4 :: c5 :: c6 :: (.slice (some ⟨SB, 0, none⟩) k sc) :: c8 :: (.slice aa n ca) :: (.slice aw n cw) :: c11 :: (.bool true) :: c13 :: c14 :: c15 :: c16 :: u17 :: c18 :: c19 :: c20 :: c21 :: c22 :: c23 :: c24 :: c25 :: c26 :: c27 :: c28 :: c29 :: c30 :: c31 :: c32 :: c33 :: c34 :: c35 :: c36 :: c37 :: c38 :: c39 :: c40 :: c41 :: c42 :: c43 :: c44 :: c45 :: c46 :: c47 :: c48 :: c49 :: c50 :: c51 :: c52 :: c53 :: c54 :: c55 :: c56 :: c57 :: c58 :: c59 :: c60 :: c61 :: c62 :: c63 :: c64 :: c65 :: c66 :: c67 :: c68 :: c69 :: c70 :: c71 :: c72 :: c73 :: c74 :: c75 :: c76 :: c77 :: c78 :: c79 :: c80 :: c81 :: c82 :: c83 :: c84 :: c85 :: c86 :: c87 :: c88 :: c89 :: c90 :: c91 :: c92 :: c93 :: c94 :: c95 :: c96 :: c97 :: c98 :: c99 :: c100 :: c101 :: c102 :: c103 :: c104 :: c105 :: c106 :: c107 :: c108 :: c109 :: c110 :: c111 :: c112 :: c113 :: c114 :: c115 :: c116 :: c117 :: c118 :: c119 :: c120 :: c121 :: c122 :: c123 :: c124 :: c125 :: c126 :: c127 :: c128 :: c129 :: c130 :: c131 :: c132 :: c133 :: c134 :: c135 :: c136 :: c137 :: c138 :: c139 :: c140 :: c141 :: c142 :: c143 :: c144 :: c145 :: c146 :: c147 :: c148 :: c149 :: c150 :: c151 :: c152 :: c153 :: c154 :: u155 :: u156 :: u157 :: u158 :: u159 :: u160 :: u161 :: u162 :: u163 :: u164 :: u165 :: u166 :: u167 :: u168 :: u169 :: u170 :: u171 :: u172 :: u173 :: u174 :: c175 :: c176 :: c177 :: c178 :: c179 :: c180 :: c181 :: c182 :: c183 :: c184 :: c185 :: c186 :: c187 :: c188 :: c189 :: c190 :: c191 :: c192 :: c193 :: c194 :: c195 :: c196 :: c197 :: c198 :: c199 :: c200 :: c201 :: c202 :: c203 :: c204 :: c205 :: c206 :: c207 :: c208 :: c209 :: c210 :: c211 :: c212 :: c213 :: c214 :: c215 :: c216 :: c217 :: c218 :: c219 :: c220 :: c221 :: c222 :: c223 :: c224 :: c225 :: c226 :: c227 :: c228 :: c229 :: c230 :: c231 :: c232 :: c233 :: c234 :: c235 :: c236 :: c237 :: c238 :: c239 :: c240 :: c241 :: c242 :: c243 :: c244 :: c245 :: c246 :: c247 :: c248 :: c249 :: c250 :: c251 :: c252 :: c253 :: c254 :: c255 :: c256 :: c257 :: c258 :: c259 :: c260 :: c261 :: c262 :: c263 :: c264 :: c265 :: c266 :: c267 :: c268 :: c269 :: c270 :: c271 :: c272 :: c273 :: c274 :: c275 :: c276 :: c277 :: c278 :: c279 :: c280 :: c281 :: c282 :: c283 :: c284 :: c285 :: c286 :: c287 :: c288 :: c289 :: c290 :: c291 :: c292 :: c293 :: c294 :: c295 :: c296 :: c297 :: c298 :: c299 :: c300 :: c301 :: c302 :: c303 :: c304 :: []), []⟩ w) :
    Code.wp Try.prog (.loop (playBody 2)) Q0 ⟨List.toArray (c0 :: c1 :: c2 :: c3 :: c4 :: c5 :: c6 :: (.slice (some ⟨SB, 0, none⟩) k sc) :: c8 :: (.slice aa n ca) :: (.slice aw n cw) :: c11 :: (.bool true) :: c13 :: c14 :: c15 :: c16 :: (.int .i64 0) :: c18 :: c19 :: c20 :: c21 :: c22 :: c23 :: c24 :: c25 :: c26 :: c27 :: c28 :: c29 :: c30 :: c31 :: c32 :: c33 :: c34 :: c35 :: c36 :: c37 :: c38 :: c39 :: c40 :: c41 :: c42 :: c43 :: c44 :: c45 :: c46 :: c47 :: c48 :: c49 :: c50 :: c51 :: c52 :: c53 :: c54 :: c55 :: c56 :: c57 :: c58 :: c59 :: c60 :: c61 :: c62 :: c63 :: c64 :: c65 :: c66 :: c67 :: c68 :: c69 :: c70 :: c71 :: c72 :: c73 :: c74 :: c75 :: c76 :: c77 :: c78 :: c79 :: c80 :: c81 :: c82 :: c83 :: c84 :: c85 :: c86 :: c87 :: c88 :: c89 :: c90 :: c91 :: c92 :: c93 :: c94 :: c95 :: c96 :: c97 :: c98 :: c99 :: c100 :: c101 :: c102 :: c103 :: c104 :: c105 :: c106 :: c107 :: c108 :: c109 :: c110 :: c111 :: c112 :: c113 :: c114 :: c115 :: c116 :: c117 :: c118 :: c119 :: c120 :: c121 :: c122 :: c123 :: c124 :: c125 :: c126 :: c127 :: c128 :: c129 :: c130 :: c131 :: c132 :: c133 :: c134 :: c135 :: c136 :: c137 :: c138 :: c139 :: c140 :: c141 :: c142 :: c143 :: c144 :: c145 :: c146 :: c147 :: c148 :: c149 :: c150 :: c151 :: c152 :: c153 :: c154 :: c155 :: c156 :: c157 :: c158 :: c159 :: c160 :: c161 :: c162 :: c163 :: c164 :: c165 :: c166 :: c167 :: c168 :: c169 :: c170 :: c171 :: c172 :: c173 :: c174 :: c175 :: c176 :: c177 :: c178 :: c179 :: c180 :: c181 :: c182 :: c183 :: c184 :: c185 :: c186 :: c187 :: c188 :: c189 :: c190 :: c191 :: c192 :: c193 :: c194 :: c195 :: c196 :: c197 :: c198 :: c199 :: c200 :: c201 :: c202 :: c203 :: c204 :: c205 :: c206 :: c207 :: c208 :: c209 :: c210 :: c211 :: c212 :: c213 :: c214 :: c215 :: c216 :: c217 :: c218 :: c219 :: c220 :: c221 :: c222 :: c223 :: c224 :: c225 :: c226 :: c227 :: c228 :: c229 :: c230 :: c231 :: c232 :: c233 :: c234 :: c235 :: c236 :: c237 :: c238 :: c239 :: c240 :: c241 :: c242 :: c243 :: c244 :: c245 :: c246 :: c247 :: c248 :: c249 :: c250 :: c251 :: c252 :: c253 :: c254 :: c255 :: c256 :: c257 :: c258 :: c259 :: c260 :: c261 :: c262 :: c263 :: c264 :: c265 :: c266 :: c267 :: c268 :: c269 :: c270 :: c271 :: c272 :: c273 :: c274 :: c275 :: c276 :: c277 :: c278 :: c279 :: c280 :: c281 :: c282 :: c283 :: c284 :: c285 :: c286 :: c287 :: c288 :: c289 :: c290 :: c291 :: c292 :: c293 :: c294 :: c295 :: c296 :: c297 :: c298 :: c299 :: c300 :: c301 :: c302 :: c303 :: c304 :: []), []⟩ w := by
  have HE := Lib.hid hexit
  clear hexit
  conv => arg 2; arg 1; whnf
  go_loopw [17] (fun jv wr => jv = .int .i64 0 ∧ w = wr) (fun jv _ => 0)
  case atStart => exact ⟨rfl, rfl⟩
  case round =>
    obtain ⟨rfl, rfl⟩ := hrel
    go_wp2_with fail
    exact HE.out _ _ _ _ _ _ _ _ _ _ _ _ _ _ _ _ _ _ _ _ _

def leftI (d : DiskM) : Int := if d.armed = true then (d.left : Int) else -1
theorem arm_cases (d : DiskM) : (d.armed = false ∧ leftI d = -1 ∧ d.actE = 0 ∧ leftI d.act = -1 ∧ d.act.off = d.off) ∨ (d.armed = true ∧ leftI d = 0 ∧ d.actE = 9 ∧ leftI d.act = 0 ∧ d.act.off = true) ∨ ∃ l : Nat, d.armed = true ∧ d.left = l + 1 ∧ leftI d = (l : Int) + 1 ∧ d.actE = 0 ∧ leftI d.act = (l : Int) ∧ d.act.off = d.off := by
  cases ha : d.armed with
  | false => left; simp [leftI, DiskM.actE, DiskM.act, ha]
  | true =>
    right
    cases hl : d.left with
    | zero => left; simp [leftI, DiskM.actE, DiskM.act, ha, hl]
    | succ l => right; refine ⟨l, ?_⟩; simp [leftI, DiskM.actE, DiskM.act, ha, hl]
theorem act_left9 (d : DiskM) : d.act.left ≤ d.left := by
  unfold DiskM.act
  split
  · exact Nat.le_refl _
  · split
    · exact Nat.le_refl _
    · show d.left - 1 ≤ d.left; omega
section
variable {w0 w : World} {D k SB : Nat} {d : DiskM} {F R : Nat → Prop} {vs : List Value} {av bv : Value} {us : List Value} {sl : List (List Int)} {wl : List (Nat × List Int)}
theorem RSt.tells (h : RSt w0 w D k SB d F R vs av bv us sl wl) {m : Nat} {B : Bool} {CA : Int} (hm : d.wet.length = m) (ho : d.off = B) (ha : (d.acts : Int) = CA) :
    Calls Try.prog 15 #[.pointer (some ⟨D, 0, none⟩)] w (fun e w' => e = .returned (.int .i64 (m : Int)) ∧ w' = w) ∧ Calls Try.prog 16 #[.pointer (some ⟨D, 0, none⟩)] w (fun e w' => e = .returned (.bool (!B)) ∧ w' = w) ∧
    Calls Try.prog 17 #[.pointer (some ⟨D, 0, none⟩)] w (fun e w' => e = .returned (.int .i64 CA) ∧ w' = w) ∧ Calls Try.prog 18 #[.pointer (some ⟨D, 0, none⟩)] w (fun e w' => e = .returned (.int .i64 (k : Int)) ∧ w' = w) := by
  obtain ⟨S, sc, wv, hd⟩ := h.disk
  obtain ⟨a, c, hwv⟩ := wet_form hd.wet
  rw [hm] at hwv
  refine ⟨wet_any D m c a _ w hd.head hwv, ?_, ?_, ?_⟩
  · have := on_any D _ w hd.head
    rw [show (d.head S sc wv).off = B from ho] at this
    exact this
  · have := acts_any D _ w hd.head
    rw [show (((d.head S sc wv).acts : Nat) : Int) = CA from ha] at this
    exact this
  · have := sectors_any D d.safe.length sc (some ⟨S, 0, none⟩) _ w hd.head rfl
    rw [h.klen] at this
    exact this
theorem RSt.wants (h : RSt w0 w D k SB d F R vs av bv us sl wl) (hs : sl = d.safe) (hw : wl = d.wet) {m : Nat} (hm : d.wet.length = m) : ∀ s, s < k → Told w R (lastV (vs.getD s undef) s (numsOf d.wet) us m) (d.last s) := fun s hs' => by
  subst hs hw
  have := told_last (s := s) (h.told s hs') h.tu d.wet.length (Nat.le_refl _)
  rw [List.take_length, hm] at this
  exact this
theorem RSt.lasts (h : RSt w0 w D k SB d F R vs av bv us sl wl) : ∀ s, s < k → (d.last s).length = 64 ∧ BytesOk (d.last s) := fun s hs => by
  obtain ⟨S, sc, wv, hd⟩ := h.disk
  exact hd.ok.last s (by rw [h.klen]; exact hs)
theorem RSt.reads (h : RSt w0 w D k SB d F R vs av bv us sl wl) {B : Bool} (ho : d.off = B) (hwl : d.wet.length ≤ 1000) : ∀ wr, Turn (fun _ => False) w wr → ∀ s, s < k → Calls Try.prog 19 #[.pointer (some ⟨D, 0, none⟩), .int .i64 (s : Int)] wr (fun e w' => Turn (fun _ => False) wr w' ∧ if B = true then e = .returned (.tuple #[.slice none 0 0, .int .i64 9]) else ∃ B', e = .returned (.tuple #[.slice (some ⟨B', 0, none⟩) 64 64, .int .i64 0]) ∧ (convert 27 9 (.slice (some ⟨B', 0, none⟩) 64 64)).run Try.prog w' = .ok (.string (strOfNums (d.last s))) w') := fun wr T s hs => by
  obtain ⟨S, sc, wv, hd⟩ := (h.calm T).disk
  have hl := h.lasts s hs
  cases B with
  | true =>
    refine (read_off wr F D S sc wv d s hd (by rw [h.klen]; exact hs) ho).mono ?_
    rintro e w' ⟨rfl, rfl⟩
    exact ⟨Turn.refl _ _, by rw [if_pos rfl]⟩
  | false =>
    refine (read_good wr F D S sc wv d s hd (by rw [h.klen]; exact hs) ho (by omega)).mono ?_
    rintro e w' ⟨B', rfl, hB, hr, hth, hT⟩
    refine ⟨hT, ?_⟩
    rw [if_neg (by decide)]
    refine ⟨B', rfl, ?_⟩
    have hrd : Reads w' (.slice (some ⟨B', 0, none⟩) 64 64) (d.last s) := .inr ⟨B', 0, 64, by rw [hl.1], by rw [hl.1]; exact Nat.le_refl _, fun i hi => by
      have := hr i (.int .u8 ((d.last s).getD i 0)) (by simp [secV, List.getD, hi])
      exact this⟩
    exact hrd.conv
end
end Go.Proofs.Ytckeackepolhdaa
