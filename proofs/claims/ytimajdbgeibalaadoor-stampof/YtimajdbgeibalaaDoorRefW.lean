/- Own: the reference's sum, loop by loop. No statement is proved here. -/
import Derived.Test.YtimajdbgeibalaaDoorRef
namespace Go.Proofs.YtimajdbgeibalaaDoor
open Go.RowKit
set_option linter.unusedVariables false
set_option linter.unusedSimpArgs false

/-- The first j bytes of word k. -/
def wacc (blk : List Int) (k : Nat) : Nat → Int
  | 0 => 0
  | j + 1 => wacc blk k j * 256 + blk.getD (4 * k + j) 0
def Byts (blk : List Int) : Prop := ∀ i, 0 ≤ blk.getD i 0 ∧ blk.getD i 0 < 256
theorem wacc_bound (blk : List Int) (k j : Nat) (hj : j < 4) (h : Byts blk) : 0 ≤ wacc blk k j ∧ wacc blk k j < 16777216 := by
  have h0 := h (4 * k + 0)
  have h1 := h (4 * k + 1)
  have h2 := h (4 * k + 2)
  match j, hj with
  | 0, _ => simp [wacc]
  | 1, _ => simp only [wacc]; omega
  | 2, _ => simp only [wacc]; omega
  | 3, _ => simp only [wacc]; omega
theorem wacc_word (blk : List Int) (k : Nat) (h : Byts blk) : wacc blk k 4 = word blk k := by
  unfold word
  rw [word4_bytes _ _ _ _ (h _) (h _) (h _) (h _)]
  simp only [wacc, Nat.add_zero]; omega

set_option maxHeartbeats 4000000 in
set_option maxRecDepth 1000000 in
theorem ref_words (M lm cm o : Nat) (blk : List Int) (c0 c1 c2 c3 c4 c6 c7 c11 c12 c13 c14 c15 c16 c17 c18 c19 c20 c21 c22 c23 c24 c25 c26 c27 c28 c29 c30 c31 c32 c33 c34 c35 c36 c37 c38 c39 c40 c41 c42 c43 c44 c45 c46 c47 c48 c49 c50 c51 c52 c53 c54 c55 c56 c57 c58 c59 c60 c61 c62 c63 c64 c65 c66 c67 c68 c69 c70 c71 c72 c73 c74 c75 c76 c77 c78 c79 c80 c81 c82 c83 c84 c85 c86 c87 c88 c89 c90 c91 c92 c93 c94 c95 c96 c97 c98 c99 c100 c101 c102 c103 c104 c105 c106 c107 c108 c109 c110 c111 c112 c113 c114 c115 c116 c117 c118 c119 c120 c121 c122 c123 c124 c125 c126 c127 c128 c129 c130 c131 c132 c133 c134 c135 c136 c137 c138 c139 c140 c141 c142 c143 c144 c145 c146 c147 c148 c149 c150 c151 c152 c153 c154 c155 c156 c157 c158 c159 c160 c161 c162 c163 c164 c165 c166 c167 c168 c169 c170 c171 c172 c173 c174 c175 c176 c177 c178 c179 c180 c181 c182 c183 c184 c185 c186 c187 c188 c189 c190 c191 c192 c193 c194 c195 c196 c197 c198 c199 c200 c201 c202 c203 c204 c205 c206 c207 c208 c209 c210 c211 c212 c213 c214 c215 c216 c217 c218 c219 c220 c221 c222 c223 c224 c225 c226 c227 c228 c229 c230 c231 c232 c233 c234 c235 c236 c237 c238 c239 c240 c241 c242 c243 c244 c245 c246 c247 c248 c249 c250 c251 c252 c253 c254 c255 c256 c257 c258 c259 c260 c261 c262 c263 c264 c265 c266 c267 c268 c269 c270 c271 c272 c273 c274 c275 c276 c277 c278 c279 c280 c281 c282 c283 : Value) (w : World) (Q0 : Exit → Act → World → Prop)
    (hok : Byts blk) (hm : ∀ i, i < 64 → w.cell? ⟨M, o + i, none⟩ = some (.int .u8 (blk.getD i 0))) (hol : o + 64 ≤ lm) (hlm : lm ≤ 100000) (hMw : M < w.heap.size)
    (hexit : ∀ (u10 u11 u12 u67 u68 u69 u70 u71 u72 u73 u74 u75 u76 u77 u78 u79 u80 u81 u82 u83 u84 u85 u86 u87 u88 u89 u90 u91 : Value) (a : Option Addr) (c : Nat) (w' : World), w'.ownsRow w.heap.size 39 1 (.slice a 16 c) 16 ((words16 blk).map (Value.int .u32)) → Turn (fun _ => False) w w' → Q0 (.exit 6) ⟨List.toArray (c0 :: c1 :: c2 :: c3 :: c4 :: (.slice (some ⟨M, 0, none⟩) lm cm) :: c6 :: c7 :: (.int .i64 (o : Int)) :: (.slice a 16 c) :: u10 :: u11 :: u12 :: c13 :: c14 :: c15 :: c16 :: c17 :: c18 :: c19 :: c20 :: c21 :: c22 :: c23 :: c24 :: c25 :: c26 :: c27 :: c28 :: c29 :: c30 :: c31 :: c32 :: c33 :: c34 :: c35 :: c36 :: c37 :: c38 :: c39 :: c40 :: c41 :: c42 :: c43 :: c44 :: c45 :: c46 :: c47 :: c48 :: c49 :: c50 :: c51 :: c52 :: c53 :: c54 :: c55 :: c56 :: c57 :: c58 :: c59 :: c60 :: c61 :: c62 :: c63 :: c64 :: c65 :: c66 :: u67 :: u68 :: u69 :: u70 :: u71 :: u72 :: u73 :: u74 :: u75 :: u76 :: u77 :: u78 :: u79 :: u80 :: u81 :: u82 :: u83 :: u84 :: u85 :: u86 :: u87 :: u88 :: u89 :: u90 :: u91 :: c92 :: c93 :: c94 :: c95 :: c96 :: c97 :: c98 :: c99 :: c100 :: c101 :: c102 :: c103 :: c104 :: c105 :: c106 :: c107 :: c108 :: c109 :: c110 :: c111 :: c112 :: c113 :: c114 :: c115 :: c116 :: c117 :: c118 :: c119 :: c120 :: c121 :: c122 :: c123 :: c124 :: c125 :: c126 :: c127 :: c128 :: c129 :: c130 :: c131 :: c132 :: c133 :: c134 :: c135 :: c136 :: c137 :: c138 :: c139 :: c140 :: c141 :: c142 :: c143 :: c144 :: c145 :: c146 :: c147 :: c148 :: c149 :: c150 :: c151 :: c152 :: c153 :: c154 :: c155 :: c156 :: c157 :: c158 :: c159 :: c160 :: c161 :: c162 :: c163 :: c164 :: c165 :: c166 :: c167 :: c168 :: c169 :: c170 :: c171 :: c172 :: c173 :: c174 :: c175 :: c176 :: c177 :: c178 :: c179 :: c180 :: c181 :: c182 :: c183 :: c184 :: c185 :: c186 :: c187 :: c188 :: c189 :: c190 :: c191 :: c192 :: c193 :: c194 :: c195 :: c196 :: c197 :: c198 :: c199 :: c200 :: c201 :: c202 :: c203 :: c204 :: c205 :: c206 :: c207 :: c208 :: c209 :: c210 :: c211 :: c212 :: c213 :: c214 :: c215 :: c216 :: c217 :: c218 :: c219 :: c220 :: c221 :: c222 :: c223 :: c224 :: c225 :: c226 :: c227 :: c228 :: c229 :: c230 :: c231 :: c232 :: c233 :: c234 :: c235 :: c236 :: c237 :: c238 :: c239 :: c240 :: c241 :: c242 :: c243 :: c244 :: c245 :: c246 :: c247 :: c248 :: c249 :: c250 :: c251 :: c252 :: c253 :: c254 :: c255 :: c256 :: c257 :: c258 :: c259 :: c260 :: c261 :: c262 :: c263 :: c264 :: c265 :: c266 :: c267 :: c268 :: c269 :: c270 :: c271 :: c272 :: c273 :: c274 :: c275 :: c276 :: c277 :: c278 :: c279 :: c280 :: c281 :: c282 :: c283 :: []), []⟩ w') :
    Code.wp Tryd.prog (.loop (refBody 3)) Q0 ⟨List.toArray (c0 :: c1 :: c2 :: c3 :: c4 :: (.slice (some ⟨M, 0, none⟩) lm cm) :: c6 :: c7 :: (.int .i64 (o : Int)) :: (.slice none 0 0) :: (.int .i64 0) :: c11 :: c12 :: c13 :: c14 :: c15 :: c16 :: c17 :: c18 :: c19 :: c20 :: c21 :: c22 :: c23 :: c24 :: c25 :: c26 :: c27 :: c28 :: c29 :: c30 :: c31 :: c32 :: c33 :: c34 :: c35 :: c36 :: c37 :: c38 :: c39 :: c40 :: c41 :: c42 :: c43 :: c44 :: c45 :: c46 :: c47 :: c48 :: c49 :: c50 :: c51 :: c52 :: c53 :: c54 :: c55 :: c56 :: c57 :: c58 :: c59 :: c60 :: c61 :: c62 :: c63 :: c64 :: c65 :: c66 :: c67 :: c68 :: c69 :: c70 :: c71 :: c72 :: c73 :: c74 :: c75 :: c76 :: c77 :: c78 :: c79 :: c80 :: c81 :: c82 :: c83 :: c84 :: c85 :: c86 :: c87 :: c88 :: c89 :: c90 :: c91 :: c92 :: c93 :: c94 :: c95 :: c96 :: c97 :: c98 :: c99 :: c100 :: c101 :: c102 :: c103 :: c104 :: c105 :: c106 :: c107 :: c108 :: c109 :: c110 :: c111 :: c112 :: c113 :: c114 :: c115 :: c116 :: c117 :: c118 :: c119 :: c120 :: c121 :: c122 :: c123 :: c124 :: c125 :: c126 :: c127 :: c128 :: c129 :: c130 :: c131 :: c132 :: c133 :: c134 :: c135 :: c136 :: c137 :: c138 :: c139 :: c140 :: c141 :: c142 :: c143 :: c144 :: c145 :: c146 :: c147 :: c148 :: c149 :: c150 :: c151 :: c152 :: c153 :: c154 :: c155 :: c156 :: c157 :: c158 :: c159 :: c160 :: c161 :: c162 :: c163 :: c164 :: c165 :: c166 :: c167 :: c168 :: c169 :: c170 :: c171 :: c172 :: c173 :: c174 :: c175 :: c176 :: c177 :: c178 :: c179 :: c180 :: c181 :: c182 :: c183 :: c184 :: c185 :: c186 :: c187 :: c188 :: c189 :: c190 :: c191 :: c192 :: c193 :: c194 :: c195 :: c196 :: c197 :: c198 :: c199 :: c200 :: c201 :: c202 :: c203 :: c204 :: c205 :: c206 :: c207 :: c208 :: c209 :: c210 :: c211 :: c212 :: c213 :: c214 :: c215 :: c216 :: c217 :: c218 :: c219 :: c220 :: c221 :: c222 :: c223 :: c224 :: c225 :: c226 :: c227 :: c228 :: c229 :: c230 :: c231 :: c232 :: c233 :: c234 :: c235 :: c236 :: c237 :: c238 :: c239 :: c240 :: c241 :: c242 :: c243 :: c244 :: c245 :: c246 :: c247 :: c248 :: c249 :: c250 :: c251 :: c252 :: c253 :: c254 :: c255 :: c256 :: c257 :: c258 :: c259 :: c260 :: c261 :: c262 :: c263 :: c264 :: c265 :: c266 :: c267 :: c268 :: c269 :: c270 :: c271 :: c272 :: c273 :: c274 :: c275 :: c276 :: c277 :: c278 :: c279 :: c280 :: c281 :: c282 :: c283 :: []), []⟩ w := by
  obtain ⟨i0, hi, hz0, hz1, hz2⟩ := info_parts Tryd.info39
  have HE := Lib.hid hexit
  have HM := Lib.hid hm
  have HOK := Lib.hid hok
  clear hexit hm hok
  conv => arg 2; arg 1; whnf
  go_loopw [9, 10] (fun sv i wr => ∃ (k c : Nat) (a : Option Addr), k ≤ 16 ∧ i = .int .i64 (k : Int) ∧ sv = .slice a k c ∧ wr.ownsRow w.heap.size 39 1 sv k (((words16 blk).take k).map (Value.int .u32)) ∧ Turn (fun _ => False) w wr) (fun _ i _ => 16 - (intOf i).toNat)
  case atStart => exact ⟨0, 0, none, Nat.zero_le _, rfl, rfl, by simpa using World.ownsRow_nil _ _ _ _, Turn.refl _ w⟩
  case round =>
    obtain ⟨k, c, a, hk', rfl, rfl, ho, hT⟩ := hrel
    have HO := Lib.hid ho
    have HT := Lib.hid hT
    have hsz := hT.size
    clear ho hT
    by_cases hlt : k < 16
    · have dl : decide ((k : Int) < 16) = true := by simp; omega
      obtain ⟨wo, rfl⟩ : ∃ wo : World, wo = wr := ⟨_, rfl⟩
      go_wp2_with fail
      go_loopw [11, 12] (fun xv jv wi => ∃ (j : Nat), j ≤ 4 ∧ jv = .int .i64 (j : Int) ∧ xv = .int .u32 (wacc blk k j) ∧ wi = wo) (fun _ jv _ => 4 - (intOf jv).toNat)
      case atStart => exact ⟨0, by omega, rfl, rfl, rfl⟩
      case round =>
        obtain ⟨j, hj, rfl, rfl, rfl⟩ := hrel
        by_cases hlj : j < 4
        · have dj : decide ((j : Int) < 4) = true := by simp; omega
          have cx := (HT.out.cell (p := ⟨M, o + (4 * k + j), none⟩) hMw id).trans (HM.out (4 * k + j) (by omega))
          have hx := wacc_bound blk k j hlj HOK.out
          have hy := HOK.out (4 * k + j)
          have HN := Lib.hid (show wacc blk k (j + 1) = wacc blk k j * 256 + blk.getD (4 * k + j) 0 from rfl)
          rw [← Nat.add_assoc] at cx
          generalize wacc blk k j = x at hx HN ⊢
          generalize blk.getD (4 * k + j) 0 = y at HN cx hy
          go_wp2_with fail
          exact ⟨⟨j + 1, by omega, by go_num, by rw [HN.out], trivial⟩, by simp [intOf]; omega⟩
        · have dj : decide ((j : Int) < 4) = false := by simp; omega
          obtain rfl : j = 4 := by omega
          have hw4 := wacc_word blk k HOK.out
          rw [hw4]
          generalize hwx : word blk k = x
          have HWX := Lib.hid hwx
          clear hw4 hwx
          go_wp2_with (at_builtin; refine wpList_append_where _ rfl (.tmp 88) (.tmp 90) 45 rfl w.heap.size 39 i0 (.int .u32 0) 1 4 Tryd.underlying45 hi hz0 hz1 hz2 rfl (by decide) _ k (((words16 blk).take k).map (Value.int .u32)) rfl (HO.out.alloc _) ⟨wr.heap.size, 0, none⟩ 1 1 [.int .u32 x] rfl rfl (one_cell39 _ _) ?d2 ?d3 ?d4 ?d5 ?_)
          case d2 => intro u hu; simp at hu; subst hu; rfl
          case d3 => unfold maxLen; omega
          case d4 => omega
          case d5 => simp; omega
          intro v3 w3 ho3 hg3 _ _
          have t3 := (HT.out.alloc (.cells #[.int .u32 x] 39)).grown hg3 (fun q h hq => by have := (HO.out.lt q h).1; omega)
          obtain ⟨a3, c3, hv3⟩ := own_slice39 ho3
          subst hv3
          have HO3 := Lib.hid ho3
          clear hg3 ho3
          go_wp2
          go_roundw
          case rel =>
            refine ⟨k + 1, c3, a3, by omega, by go_num, rfl, ?_, t3⟩
            rw [words16_take blk k hlt, HWX.out]; simpa using HO3.out
          case measure => simp [intOf]; omega
    · have dl : decide ((k : Int) < 16) = false := by simp; omega
      obtain rfl : k = 16 := by omega
      have e16 : (words16 blk).take 16 = words16 blk := List.take_of_length_le (by simp [words16])
      have ho := HO.out
      rw [e16] at ho
      have HO2 := Lib.hid ho
      clear ho e16
      go_wp2_with fail
      exact HE.out _ _ _ _ _ _ _ _ _ _ _ _ _ _ _ _ _ _ _ _ _ _ _ _ _ _ _ _ _ _ _ HO2.out HT.out
end Go.Proofs.YtimajdbgeibalaaDoor
