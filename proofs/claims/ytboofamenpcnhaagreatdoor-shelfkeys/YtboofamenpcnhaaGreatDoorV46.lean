/- Own texts, packed: TRefMath, TRef, TRefW. -/
import Derived.Test.YtboofamenpcnhaaGreatDoorV43
namespace Go.Proofs.YtboofamenpcnhaaGreatDoor.RefT
open Go.RowKit
set_option linter.unusedVariables false
theorem stirN_left (ks : List Int) (s : Eight) (a b : List Int) : ∀ (j : Nat), 64 * j ≤ a.length → stirN ks s (a ++ b) j = stirN ks s a j
  | 0, _ => rfl
  | j + 1, h => by
    rw [stirN, stirN, stirN_left ks s a b j (by omega), List.drop_append_of_le_length (by omega), List.take_append_of_le_length (by rw [List.length_drop]; omega)]
theorem stirN_app (ks : List Int) (s : Eight) (a b : List Int) (n : Nat) (ha : a.length = 64 * n) : ∀ (m : Nat), stirN ks s (a ++ b) (n + m) = stirN ks (stirN ks s a n) b m
  | 0 => stirN_left ks s a b n (by omega)
  | m + 1 => by
    rw [← Nat.add_assoc, stirN, stirN, stirN_app ks s a b n ha m]
    have e : (a ++ b).drop (64 * (n + m)) = b.drop (64 * m) := by
      rw [Nat.mul_add, ← ha, List.drop_append]
      simp
    rw [e]
/-- All bytes, a bit, noughts, and how many bits there were. -/
def padAll (ps : List Int) : List Int := ps ++ [128] ++ List.replicate (pads ps.length) 0 ++ lenB ps.length 8
theorem padAll_split (ps : List Int) : padAll ps = ps.take (whole ps.length) ++ lastB ps := by
  have e : pads (ps.drop (whole ps.length)).length = pads ps.length := by
    rw [List.length_drop]; unfold pads whole
    have : (ps.length - (ps.length - ps.length % 64)) % 64 = ps.length % 64 := by omega
    rw [this]
  unfold padAll lastB
  rw [e]
  simp only [List.append_assoc]
  rw [← List.append_assoc (ps.take (whole ps.length)), List.take_append_drop]
theorem padAll_len (ps : List Int) : (padAll ps).length = ps.length + 9 + pads ps.length := by
  simp [padAll, lenB]; omega
/-- The program's two steps are the reference's one. -/
theorem sha_pad (f : Eight) (ks ps : List Int) : stirN ks f (padAll ps) ((padAll ps).length / 64) = shaE f ks ps := by
  have hw : (ps.take (whole ps.length)).length = 64 * ((ps.take (whole ps.length)).length / 64) := by
    rw [List.length_take]; unfold whole; omega
  have hl : (padAll ps).length / 64 = (ps.take (whole ps.length)).length / 64 + (lastB ps).length / 64 := by
    rw [padAll_split, List.length_append]; omega
  rw [hl, padAll_split, stirN_app ks f _ _ _ hw]
  rfl
theorem wrap32 (n : Nat) (h : n < 4294967296) : IntKind.u32.wrap (n : Int) = (n : Int) := IntWalk.u32_in _ (by omega)
theorem or32 (a b k : Nat) (ha : a * 2 ^ k < 4294967296) (hb : b < 2 ^ k) (hs : a * 2 ^ k + b < 4294967296) : bits .or .u32 ((a * 2 ^ k : Nat) : Int) ((b : Nat) : Int) = ((a * 2 ^ k + b : Nat) : Int) := by
  show IntKind.u32.wrap ((BitVec.ofInt 32 ((a * 2 ^ k : Nat) : Int) ||| BitVec.ofInt 32 ((b : Nat) : Int)).toNat : Int) = _
  rw [BitVec.ofInt_natCast, BitVec.ofInt_natCast, BitVec.toNat_or, BitVec.toNat_ofNat, BitVec.toNat_ofNat, Nat.mod_eq_of_lt (by simpa using ha), Nat.mod_eq_of_lt (show b < 2 ^ 32 by omega)]
  have h := Nat.shiftLeft_add_eq_or_of_lt hb a
  rw [Nat.shiftLeft_eq] at h
  rw [← h, wrap32 _ hs]
theorem comp32 (e : Int) (h0 : 0 ≤ e) (h1 : e < 4294967296) : bits .xor .u32 IntKind.u32.max e = 4294967295 - e := by
  obtain ⟨n, rfl⟩ := Int.eq_ofNat_of_zero_le h0
  show IntKind.u32.wrap ((BitVec.ofInt 32 IntKind.u32.max ^^^ BitVec.ofInt 32 ((n : Nat) : Int)).toNat : Int) = _
  rw [show BitVec.ofInt 32 IntKind.u32.max = BitVec.allOnes 32 by decide, BitVec.allOnes_xor, BitVec.toNat_not, BitVec.ofInt_natCast, BitVec.toNat_ofNat, Nat.mod_eq_of_lt (show n < 2 ^ 32 by omega), wrap32 _ (by omega)]
  omega
theorem word4_bytes (b0 b1 b2 b3 : Int) (h0 : 0 ≤ b0 ∧ b0 < 256) (h1 : 0 ≤ b1 ∧ b1 < 256) (h2 : 0 ≤ b2 ∧ b2 < 256) (h3 : 0 ≤ b3 ∧ b3 < 256) :
    word4 b0 b1 b2 b3 = ((b0 * 256 + b1) * 256 + b2) * 256 + b3 := by
  obtain ⟨n0, rfl⟩ := Int.eq_ofNat_of_zero_le h0.1
  obtain ⟨n1, rfl⟩ := Int.eq_ofNat_of_zero_le h1.1
  obtain ⟨n2, rfl⟩ := Int.eq_ofNat_of_zero_le h2.1
  obtain ⟨n3, rfl⟩ := Int.eq_ofNat_of_zero_le h3.1
  have w0 := wrap32 n0 (by omega)
  have w1 := wrap32 n1 (by omega)
  have w2 := wrap32 n2 (by omega)
  have w3 := wrap32 n3 (by omega)
  have e0 : IntKind.u32.wrap ((n0 : Int) * 16777216) = ((n0 * 2 ^ 24 : Nat) : Int) := by rw [show (n0 : Int) * 16777216 = ((n0 * 2 ^ 24 : Nat) : Int) by omega]; exact wrap32 _ (by omega)
  have e1 : IntKind.u32.wrap ((n1 : Int) * 65536) = ((n1 * 2 ^ 16 : Nat) : Int) := by rw [show (n1 : Int) * 65536 = ((n1 * 2 ^ 16 : Nat) : Int) by omega]; exact wrap32 _ (by omega)
  have e2 : IntKind.u32.wrap ((n2 : Int) * 256) = ((n2 * 2 ^ 8 : Nat) : Int) := by rw [show (n2 : Int) * 256 = ((n2 * 2 ^ 8 : Nat) : Int) by omega]; exact wrap32 _ (by omega)
  unfold word4
  rw [w0, w1, w2, w3, e0, e1, e2, or32 n0 (n1 * 2 ^ 16) 24 (by omega) (by omega) (by omega)]
  rw [show n0 * 2 ^ 24 + n1 * 2 ^ 16 = (n0 * 256 + n1) * 2 ^ 16 by omega, or32 (n0 * 256 + n1) (n2 * 2 ^ 8) 16 (by omega) (by omega) (by omega)]
  rw [show (n0 * 256 + n1) * 2 ^ 16 + n2 * 2 ^ 8 = ((n0 * 256 + n1) * 256 + n2) * 2 ^ 8 by omega, or32 ((n0 * 256 + n1) * 256 + n2) n3 8 (by omega) (by omega) (by omega)]
  omega
end Go.Proofs.YtboofamenpcnhaaGreatDoor.RefT
namespace Go.Proofs.YtboofamenpcnhaaGreatDoor.RefT
open Go.RowKit
set_option linter.unusedVariables false
set_option linter.unusedSimpArgs false
/-- The loops of a code, in the order of the text. -/
def loopsOf : Code → List Code
  | .loop c => c :: loopsOf c
  | .seq a b => loopsOf a ++ loopsOf b
  | .block _ c => loopsOf c
  | .scope c => loopsOf c
  | .cond _ a b => loopsOf a ++ loopsOf b
  | _ => []
noncomputable def refLoops : List Code := match Tryz.f11.body with | some c => loopsOf c | none => []
noncomputable def refBody (n : Nat) : Code := refLoops.getD n .skip
structure Same (w w' : World) : Prop where
  heap : w'.heap = w.heap
  turn : Turn (fun _ => False) w w'
theorem Same.refl (w : World) : Same w w := ⟨rfl, Turn.refl _ w⟩
theorem Same.drewN {w w' : World} (h : Same w w') (k : Nat) : Same w (w'.drewN k) := ⟨h.heap, h.turn.drewN k⟩
theorem append_keeps {P : Program} (w : World) (t ty e : TypeId) (i : TypeInfo) (z : Value) (bytes : Nat) (ht : P.underlying t = some (.slice e)) (hi : P.info? e = some i) (hz : i.zero = some z)
    (hsize : i.size = 1) (hby : i.bytes = bytes) (base g cap n : Nat) (xs : List Value) (hown : w.ownsRow base e 1 (.slice (some ⟨g, 0, none⟩) n cap) n xs)
    (a : Addr) (u : Value) (c : Nat) (hnews : ∀ j x, [u][j]? = some x → w.cell? (a.add j) = some x) (h1 : ∀ x ∈ [u], x.oneCell' = true)
    (h63 : n + 1 ≤ maxLen) (hbytes : (n + 1) * bytes ≤ 140737488355328) (v' : Value) (w' : World)
    (hrun : (Builtin.append_ #[t, t] ty #[.slice (some ⟨g, 0, none⟩) n cap, .slice (some a) 1 c]).run P w = .ok v' w') : ∀ j, j < n → w'.cell? ⟨g, j, none⟩ = w.cell? ⟨g, j, none⟩ := by
  have hsmall : n + 1 ≤ 9223372036854775807 := by simp only [maxLen] at h63; omega
  intro j hj
  rcases hown.2 with ⟨h, _⟩ | ⟨g', cap', cur, h, hbg, hg, hnc, hcm, hcs, htake⟩
  · cases h
  · injection h with e1 _ e3
    injection e1 with e1
    injection e1 with e1
    subst e1 e3
    by_cases hroom : n + 1 ≤ cap
    · have hr := run_append_room (P := P) w t ty e i ht hi g n cap cur hg a 1 c [u] (by simp [hsize]) hnews h1 hroom (by rw [hsize]; simp; omega)
      rw [hr] at hrun
      cases hrun
      rw [cell_setRow_same w g j cur _ e (0, 0) hg, cell_of_row w g j cur e (0, 0) hg, hsize]
      have hjc : j < cur.size := by omega
      simp [List.getElem?_append, List.getElem?_take, hj, hjc]
      omega
    · have hr := run_append_grow (P := P) w t ty e i z ht hi hz ⟨g, 0, none⟩ n cap xs (by rw [hsize]; exact hown.1) (hown.cells (g := g) rfl) a 1 c [u] (by simp [hsize]) hnews (by omega) (by omega) (by rw [hby]; exact growslice_fits (by omega) hbytes)
      rw [hr] at hrun
      cases hrun
      exact World.cell?_alloc_past _ _ _ (Array.getElem?_eq_some_iff.1 hg).1
theorem own_slice39 {w : World} {base : Nat} {v : Value} {n : Nat} {xs : List Value} (h : w.ownsRow base 65 1 v n xs) : ∃ a c, v = .slice a n c := by
  rcases h.2 with ⟨rfl, rfl⟩ | ⟨g, cap', _, rfl, _⟩
  · exact ⟨_, _, rfl⟩
  · exact ⟨_, _, rfl⟩
theorem own_some39 {w : World} {base : Nat} {v : Value} {n : Nat} {xs : List Value} (h : w.ownsRow base 65 1 v n xs) (h0 : 0 < n) : ∃ g c, v = .slice (some ⟨g, 0, none⟩) n c ∧ base ≤ g ∧ g < w.heap.size := by
  rcases h.2 with ⟨rfl, rfl⟩ | ⟨g, cap', cur, rfl, hb, hg, _⟩
  · omega
  · exact ⟨_, _, rfl, hb, (Array.getElem?_eq_some_iff.1 hg).1⟩
theorem own_cell39 {w : World} {base g n c : Nat} {ws : List Int} (h : w.ownsRow base 65 1 (.slice (some ⟨g, 0, none⟩) n c) n (ws.map (Value.int .u32))) (i : Nat) (hi : i < n) : w.cell? ⟨g, i, none⟩ = some (.int .u32 (ws.getD i 0)) := by
  have hl : ws.length = n := by have := h.1; simpa using this
  rw [h.cellAt i (by omega)]
  simp [List.getD, show i < ws.length by omega]
theorem one_cell65 (w : World) (x : Int) : ∀ (j : Nat) u, [Value.int .u32 x][j]? = some u → (w.alloc (.cells #[.int .u32 x] 65)).cell? ((⟨w.heap.size, 0, none⟩ : Addr).add j) = some u := by
  intro j u hj
  have hb := heap_alloc_new w (.cells #[.int .u32 x] 65)
  rw [show ((⟨w.heap.size, 0, none⟩ : Addr).add j) = ⟨w.heap.size, 0 + j, none⟩ by unfold Addr.add; split <;> simp_all, Nat.zero_add, cell_of_row _ _ _ _ 65 (0, 0) hb]
  simpa using hj
theorem exec_append {P : Program} (ev : Operand → Value) (op : Oper) (s x : Operand) (t : TypeId) (ho : op.op = .call { callee := .builtin .append, args := #[s, x], argTypes := #[t, t] }) (v v2 v' : Value) (w w' : World) (hs : ev s = v) (hx : ev x = v2)
    (hrun : (Builtin.append_ #[t, t] op.type #[v, v2]).run P w = .ok v' w') : (execOp ev op).run P w = .ok (.value v') w' := by
  unfold execOp
  simp only [ho, resolve, invoke, builtin, Sem.run_bind, Sem.run_pure, Result.andThen_ok, List.map_toArray, List.map_cons, List.map_nil, hs, hx, hrun]
theorem oper_exec {P : Program} {op : Oper} {a : Act} {w : World} {K : Act → World → Prop} {Q : Exit → Act → World → Prop} (v : Value) (w' : World) (h : (execOp a.eval op).run P w = .ok (.value v) w') (hk : K (a.put op.dst v) w') : op.wp P a w K Q := by
  unfold Oper.wp
  rw [h]
  exact hk
theorem Same.cell {w w' : World} (h : Same w w') {p : Addr} {v : Value} (hc : w.cell? p = some v) : w'.cell? p = some v := (World.cell?_of_block (w := w) (by rw [h.heap])).trans hc
end Go.Proofs.YtboofamenpcnhaaGreatDoor.RefT
namespace Go.Proofs.YtboofamenpcnhaaGreatDoor.RefT
open Go.RowKit
set_option linter.unusedVariables false
set_option linter.unusedSimpArgs false
/-- The first j bytes of word k. -/
def wacc (blk : List Int) (k : Nat) : Nat → Int
  | 0 => 0
  | j + 1 => wacc blk k j * 256 + blk.getD (4 * k + j) 0
def Byts (blk : List Int) : Prop := ∀ i, 0 ≤ blk.getD i 0 ∧ blk.getD i 0 < 256
theorem wacc_bound (blk : List Int) (k j : Nat) (hj : j < 4) (h : Byts blk) : 0 ≤ wacc blk k j ∧ wacc blk k j < 16777216 := by
  have h0 := h (4 * k + 0)
  have h1 := h (4 * k + 1)
  have h2 := h (4 * k + 2)
  match j, hj with
  | 0, _ => simp [wacc]
  | 1, _ => simp only [wacc]; omega
  | 2, _ => simp only [wacc]; omega
  | 3, _ => simp only [wacc]; omega
theorem wacc_word (blk : List Int) (k : Nat) (h : Byts blk) : wacc blk k 4 = word blk k := by
  unfold word
  rw [word4_bytes _ _ _ _ (h _) (h _) (h _) (h _)]
  simp only [wacc, Nat.add_zero]; omega
set_option maxHeartbeats 4000000 in
set_option maxRecDepth 1000000 in
theorem ref_words (M lm cm o : Nat) (blk : List Int) (c0 c1 c2 c3 c4 c6 c7 c11 c12 c13 c14 c15 c16 c17 c18 c19 c20 c21 c22 c23 c24 c25 c26 c27 c28 c29 c30 c31 c32 c33 c34 c35 c36 c37 c38 c39 c40 c41 c42 c43 c44 c45 c46 c47 c48 c49 c50 c51 c52 c53 c54 c55 c56 c57 c58 c59 c60 c61 c62 c63 c64 c65 c66 c67 c68 c69 c70 c71 c72 c73 c74 c75 c76 c77 c78 c79 c80 c81 c82 c83 c84 c85 c86 c87 c88 c89 c90 c91 c92 c93 c94 c95 c96 c97 c98 c99 c100 c101 c102 c103 c104 c105 c106 c107 c108 c109 c110 c111 c112 c113 c114 c115 c116 c117 c118 c119 c120 c121 c122 c123 c124 c125 c126 c127 c128 c129 c130 c131 c132 c133 c134 c135 c136 c137 c138 c139 c140 c141 c142 c143 c144 c145 c146 c147 c148 c149 c150 c151 c152 c153 c154 c155 c156 c157 c158 c159 c160 c161 c162 c163 c164 c165 c166 c167 c168 c169 c170 c171 c172 c173 c174 c175 c176 c177 c178 c179 c180 c181 c182 c183 c184 c185 c186 c187 c188 c189 c190 c191 c192 c193 c194 c195 c196 c197 c198 c199 c200 c201 c202 c203 c204 c205 c206 c207 c208 c209 c210 c211 c212 c213 c214 c215 c216 c217 c218 c219 c220 c221 c222 c223 c224 c225 c226 c227 c228 c229 c230 c231 c232 c233 c234 c235 c236 c237 c238 c239 c240 c241 c242 c243 c244 c245 c246 c247 c248 c249 c250 c251 c252 c253 c254 c255 c256 c257 c258 c259 c260 c261 c262 c263 c264 c265 c266 c267 c268 c269 c270 c271 c272 c273 c274 c275 c276 c277 c278 c279 c280 c281 c282 c283 : Value) (w : World) (Q0 : Exit → Act → World → Prop)
    (hok : Byts blk) (hm : ∀ i, i < 64 → w.cell? ⟨M, o + i, none⟩ = some (.int .u8 (blk.getD i 0))) (hol : o + 64 ≤ lm) (hlm : lm ≤ 100000) (hMw : M < w.heap.size)
    (hexit : ∀ (u10 u11 u12 u67 u68 u69 u70 u71 u72 u73 u74 u75 u76 u77 u78 u79 u80 u81 u82 u83 u84 u85 u86 u87 u88 u89 u90 u91 : Value) (a : Option Addr) (c : Nat) (w' : World), w'.ownsRow w.heap.size 65 1 (.slice a 16 c) 16 ((words16 blk).map (Value.int .u32)) → Turn (fun _ => False) w w' → Q0 (.exit 6) ⟨List.toArray (c0 :: c1 :: c2 :: c3 :: c4 :: (.slice (some ⟨M, 0, none⟩) lm cm) :: c6 :: c7 :: (.int .i64 (o : Int)) :: (.slice a 16 c) :: u10 :: u11 :: u12 :: c13 :: c14 :: c15 :: c16 :: c17 :: c18 :: c19 :: c20 :: c21 :: c22 :: c23 :: c24 :: c25 :: c26 :: c27 :: c28 :: c29 :: c30 :: c31 :: c32 :: c33 :: c34 :: c35 :: c36 :: c37 :: c38 :: c39 :: c40 :: c41 :: c42 :: c43 :: c44 :: c45 :: c46 :: c47 :: c48 :: c49 :: c50 :: c51 :: c52 :: c53 :: c54 :: c55 :: c56 :: c57 :: c58 :: c59 :: c60 :: c61 :: c62 :: c63 :: c64 :: c65 :: c66 :: u67 :: u68 :: u69 :: u70 :: u71 :: u72 :: u73 :: u74 :: u75 :: u76 :: u77 :: u78 :: u79 :: u80 :: u81 :: u82 :: u83 :: u84 :: u85 :: u86 :: u87 :: u88 :: u89 :: u90 :: u91 :: c92 :: c93 :: c94 :: c95 :: c96 :: c97 :: c98 :: c99 :: c100 :: c101 :: c102 :: c103 :: c104 :: c105 :: c106 :: c107 :: c108 :: c109 :: c110 :: c111 :: c112 :: c113 :: c114 :: c115 :: c116 :: c117 :: c118 :: c119 :: c120 :: c121 :: c122 :: c123 :: c124 :: c125 :: c126 :: c127 :: c128 :: c129 :: c130 :: c131 :: c132 :: c133 :: c134 :: c135 :: c136 :: c137 :: c138 :: c139 :: c140 :: c141 :: c142 :: c143 :: c144 :: c145 :: c146 :: c147 :: c148 :: c149 :: c150 :: c151 :: c152 :: c153 :: c154 :: c155 :: c156 :: c157 :: c158 :: c159 :: c160 :: c161 :: c162 :: c163 :: c164 :: c165 :: c166 :: c167 :: c168 :: c169 :: c170 :: c171 :: c172 :: c173 :: c174 :: c175 :: c176 :: c177 :: c178 :: c179 :: c180 :: c181 :: c182 :: c183 :: c184 :: c185 :: c186 :: c187 :: c188 :: c189 :: c190 :: c191 :: c192 :: c193 :: c194 :: c195 :: c196 :: c197 :: c198 :: c199 :: c200 :: c201 :: c202 :: c203 :: c204 :: c205 :: c206 :: c207 :: c208 :: c209 :: c210 :: c211 :: c212 :: c213 :: c214 :: c215 :: c216 :: c217 :: c218 :: c219 :: c220 :: c221 :: c222 :: c223 :: c224 :: c225 :: c226 :: c227 :: c228 :: c229 :: c230 :: c231 :: c232 :: c233 :: c234 :: c235 :: c236 :: c237 :: c238 :: c239 :: c240 :: c241 :: c242 :: c243 :: c244 :: c245 :: c246 :: c247 :: c248 :: c249 :: c250 :: c251 :: c252 :: c253 :: c254 :: c255 :: c256 :: c257 :: c258 :: c259 :: c260 :: c261 :: c262 :: c263 :: c264 :: c265 :: c266 :: c267 :: c268 :: c269 :: c270 :: c271 :: c272 :: c273 :: c274 :: c275 :: c276 :: c277 :: c278 :: c279 :: c280 :: c281 :: c282 :: c283 :: []), []⟩ w') :
    Code.wp Tryz.prog (.loop (refBody 3)) Q0 ⟨List.toArray (c0 :: c1 :: c2 :: c3 :: c4 :: (.slice (some ⟨M, 0, none⟩) lm cm) :: c6 :: c7 :: (.int .i64 (o : Int)) :: (.slice none 0 0) :: (.int .i64 0) :: c11 :: c12 :: c13 :: c14 :: c15 :: c16 :: c17 :: c18 :: c19 :: c20 :: c21 :: c22 :: c23 :: c24 :: c25 :: c26 :: c27 :: c28 :: c29 :: c30 :: c31 :: c32 :: c33 :: c34 :: c35 :: c36 :: c37 :: c38 :: c39 :: c40 :: c41 :: c42 :: c43 :: c44 :: c45 :: c46 :: c47 :: c48 :: c49 :: c50 :: c51 :: c52 :: c53 :: c54 :: c55 :: c56 :: c57 :: c58 :: c59 :: c60 :: c61 :: c62 :: c63 :: c64 :: c65 :: c66 :: c67 :: c68 :: c69 :: c70 :: c71 :: c72 :: c73 :: c74 :: c75 :: c76 :: c77 :: c78 :: c79 :: c80 :: c81 :: c82 :: c83 :: c84 :: c85 :: c86 :: c87 :: c88 :: c89 :: c90 :: c91 :: c92 :: c93 :: c94 :: c95 :: c96 :: c97 :: c98 :: c99 :: c100 :: c101 :: c102 :: c103 :: c104 :: c105 :: c106 :: c107 :: c108 :: c109 :: c110 :: c111 :: c112 :: c113 :: c114 :: c115 :: c116 :: c117 :: c118 :: c119 :: c120 :: c121 :: c122 :: c123 :: c124 :: c125 :: c126 :: c127 :: c128 :: c129 :: c130 :: c131 :: c132 :: c133 :: c134 :: c135 :: c136 :: c137 :: c138 :: c139 :: c140 :: c141 :: c142 :: c143 :: c144 :: c145 :: c146 :: c147 :: c148 :: c149 :: c150 :: c151 :: c152 :: c153 :: c154 :: c155 :: c156 :: c157 :: c158 :: c159 :: c160 :: c161 :: c162 :: c163 :: c164 :: c165 :: c166 :: c167 :: c168 :: c169 :: c170 :: c171 :: c172 :: c173 :: c174 :: c175 :: c176 :: c177 :: c178 :: c179 :: c180 :: c181 :: c182 :: c183 :: c184 :: c185 :: c186 :: c187 :: c188 :: c189 :: c190 :: c191 :: c192 :: c193 :: c194 :: c195 :: c196 :: c197 :: c198 :: c199 :: c200 :: c201 :: c202 :: c203 :: c204 :: c205 :: c206 :: c207 :: c208 :: c209 :: c210 :: c211 :: c212 :: c213 :: c214 :: c215 :: c216 :: c217 :: c218 :: c219 :: c220 :: c221 :: c222 :: c223 :: c224 :: c225 :: c226 :: c227 :: c228 :: c229 :: c230 :: c231 :: c232 :: c233 :: c234 :: c235 :: c236 :: c237 :: c238 :: c239 :: c240 :: c241 :: c242 :: c243 :: c244 :: c245 :: c246 :: c247 :: c248 :: c249 :: c250 :: c251 :: c252 :: c253 :: c254 :: c255 :: c256 :: c257 :: c258 :: c259 :: c260 :: c261 :: c262 :: c263 :: c264 :: c265 :: c266 :: c267 :: c268 :: c269 :: c270 :: c271 :: c272 :: c273 :: c274 :: c275 :: c276 :: c277 :: c278 :: c279 :: c280 :: c281 :: c282 :: c283 :: []), []⟩ w := by
  obtain ⟨i0, hi, hz0, hz1, hz2⟩ := info_parts Tryz.info65
  have HE := Lib.hid hexit
  have HM := Lib.hid hm
  have HOK := Lib.hid hok
  clear hexit hm hok
  conv => arg 2; arg 1; whnf
  go_loopw [9, 10] (fun sv i wr => ∃ (k c : Nat) (a : Option Addr), k ≤ 16 ∧ i = .int .i64 (k : Int) ∧ sv = .slice a k c ∧ wr.ownsRow w.heap.size 65 1 sv k (((words16 blk).take k).map (Value.int .u32)) ∧ Turn (fun _ => False) w wr) (fun _ i _ => 16 - (intOf i).toNat)
  case atStart => exact ⟨0, 0, none, Nat.zero_le _, rfl, rfl, by simpa using World.ownsRow_nil _ _ _ _, Turn.refl _ w⟩
  case round =>
    obtain ⟨k, c, a, hk', rfl, rfl, ho, hT⟩ := hrel
    have HO := Lib.hid ho
    have HT := Lib.hid hT
    have hsz := hT.size
    clear ho hT
    by_cases hlt : k < 16
    · have dl : decide ((k : Int) < 16) = true := by simp; omega
      obtain ⟨wo, rfl⟩ : ∃ wo : World, wo = wr := ⟨_, rfl⟩
      go_wp2_with fail
      go_loopw [11, 12] (fun xv jv wi => ∃ (j : Nat), j ≤ 4 ∧ jv = .int .i64 (j : Int) ∧ xv = .int .u32 (wacc blk k j) ∧ wi = wo) (fun _ jv _ => 4 - (intOf jv).toNat)
      case atStart => exact ⟨0, by omega, rfl, rfl, rfl⟩
      case round =>
        obtain ⟨j, hj, rfl, rfl, rfl⟩ := hrel
        by_cases hlj : j < 4
        · have dj : decide ((j : Int) < 4) = true := by simp; omega
          have cx := (HT.out.cell (p := ⟨M, o + (4 * k + j), none⟩) hMw id).trans (HM.out (4 * k + j) (by omega))
          have hx := wacc_bound blk k j hlj HOK.out
          have hy := HOK.out (4 * k + j)
          have HN := Lib.hid (show wacc blk k (j + 1) = wacc blk k j * 256 + blk.getD (4 * k + j) 0 from rfl)
          rw [← Nat.add_assoc] at cx
          generalize wacc blk k j = x at hx HN ⊢
          generalize blk.getD (4 * k + j) 0 = y at HN cx hy
          go_wp2_with fail
          exact ⟨⟨j + 1, by omega, by go_num, by rw [HN.out], trivial⟩, by simp [intOf]; omega⟩
        · have dj : decide ((j : Int) < 4) = false := by simp; omega
          obtain rfl : j = 4 := by omega
          have hw4 := wacc_word blk k HOK.out
          rw [hw4]
          generalize hwx : word blk k = x
          have HWX := Lib.hid hwx
          clear hw4 hwx
          go_wp2_with (at_builtin; refine wpList_append_where _ rfl (.tmp 88) (.tmp 90) 66 rfl w.heap.size 65 i0 (.int .u32 0) 1 4 Tryz.underlying66 hi hz0 hz1 hz2 rfl (by decide) _ k (((words16 blk).take k).map (Value.int .u32)) rfl (HO.out.alloc _) ⟨wr.heap.size, 0, none⟩ 1 1 [.int .u32 x] rfl rfl (one_cell65 _ _) ?d2 ?d3 ?d4 ?d5 ?_)
          case d2 => intro u hu; simp at hu; subst hu; rfl
          case d3 => unfold maxLen; omega
          case d4 => omega
          case d5 => simp; omega
          intro v3 w3 ho3 hg3 _ _
          have t3 := (HT.out.alloc (.cells #[.int .u32 x] 65)).grown hg3 (fun q h hq => by have := (HO.out.lt q h).1; omega)
          obtain ⟨a3, c3, hv3⟩ := own_slice39 ho3
          subst hv3
          have HO3 := Lib.hid ho3
          clear hg3 ho3
          go_wp2
          go_roundw
          case rel =>
            refine ⟨k + 1, c3, a3, by omega, by go_num, rfl, ?_, t3⟩
            rw [words16_take blk k hlt, HWX.out]; simpa using HO3.out
          case measure => simp [intOf]; omega
    · have dl : decide ((k : Int) < 16) = false := by simp; omega
      obtain rfl : k = 16 := by omega
      have e16 : (words16 blk).take 16 = words16 blk := List.take_of_length_le (by simp [words16])
      have ho := HO.out
      rw [e16] at ho
      have HO2 := Lib.hid ho
      clear ho e16
      go_wp2_with fail
      exact HE.out _ _ _ _ _ _ _ _ _ _ _ _ _ _ _ _ _ _ _ _ _ _ _ _ _ _ _ _ _ _ _ HO2.out HT.out
end Go.Proofs.YtboofamenpcnhaaGreatDoor.RefT
