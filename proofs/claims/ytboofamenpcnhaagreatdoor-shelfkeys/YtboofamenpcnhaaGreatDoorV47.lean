/- Own texts, packed: TRefX. -/
import Derived.Test.YtboofamenpcnhaaGreatDoorV46
import Derived.Test.YtboofamenpcnhaaGreatDoorV00
namespace Go.Proofs.YtboofamenpcnhaaGreatDoor.RefT
open Go.RowKit
set_option linter.unusedVariables false
set_option linter.unusedSimpArgs false
set_option maxHeartbeats 4000000 in
set_option maxRecDepth 1000000 in
theorem ref_ext (w0 : World) (a9 : Option Addr) (c9 : Nat) (blk : List Int) (c0 c1 c2 c3 c4 c5 c6 c7 c8 c10 c11 c12 c14 c15 c16 c17 c18 c19 c20 c21 c22 c23 c24 c25 c26 c27 c28 c29 c30 c31 c32 c33 c34 c35 c36 c37 c38 c39 c40 c41 c42 c43 c44 c45 c46 c47 c48 c49 c50 c51 c52 c53 c54 c55 c56 c57 c58 c59 c60 c61 c62 c63 c64 c65 c66 c67 c68 c69 c70 c71 c72 c73 c74 c75 c76 c77 c78 c79 c80 c81 c82 c83 c84 c85 c86 c87 c88 c89 c90 c91 c92 c93 c94 c95 c96 c97 c98 c99 c100 c101 c102 c103 c104 c105 c106 c107 c108 c109 c110 c111 c112 c113 c114 c115 c116 c117 c118 c119 c120 c121 c122 c123 c124 c125 c126 c127 c128 c129 c130 c131 c132 c133 c134 c135 c136 c137 c138 c139 c140 c141 c142 c143 c144 c145 c146 c147 c148 c149 c150 c151 c152 c153 c154 c155 c156 c157 c158 c159 c160 c161 c162 c163 c164 c165 c166 c167 c168 c169 c170 c171 c172 c173 c174 c175 c176 c177 c178 c179 c180 c181 c182 c183 c184 c185 c186 c187 c188 c189 c190 c191 c192 c193 c194 c195 c196 c197 c198 c199 c200 c201 c202 c203 c204 c205 c206 c207 c208 c209 c210 c211 c212 c213 c214 c215 c216 c217 c218 c219 c220 c221 c222 c223 c224 c225 c226 c227 c228 c229 c230 c231 c232 c233 c234 c235 c236 c237 c238 c239 c240 c241 c242 c243 c244 c245 c246 c247 c248 c249 c250 c251 c252 c253 c254 c255 c256 c257 c258 c259 c260 c261 c262 c263 c264 c265 c266 c267 c268 c269 c270 c271 c272 c273 c274 c275 c276 c277 c278 c279 c280 c281 c282 c283 : Value) (w : World) (Q0 : Exit → Act → World → Prop)
    (hQ : ∀ e (a : Act) d v w', Q0 (.panic e) (a.put d v) w' → Q0 (.panic e) a w') (ho0 : w.ownsRow w0.heap.size 65 1 (.slice a9 16 c9) 16 ((words16 blk).map (Value.int .u32))) (hT0 : Turn (fun _ => False) w0 w)
    (hexit : ∀ (u13 u14 u15 u92 u93 u94 u95 u96 u97 u98 u99 u100 u101 u102 u103 u104 u105 u106 u107 u108 u109 u110 u111 u112 u113 u114 u115 u116 u117 u118 u119 u120 u121 u122 u123 u124 u125 u126 u127 u128 u129 u130 u131 u132 u133 u134 u135 u136 u137 u138 u139 u140 u141 u142 u143 u144 u145 u146 u147 u148 u149 u150 u151 u152 u153 : Value) (a : Option Addr) (c : Nat) (w' : World), w'.ownsRow w0.heap.size 65 1 (.slice a 64 c) 64 ((sched blk 48).map (Value.int .u32)) → Turn (fun _ => False) w0 w' → Q0 (.exit 10) ⟨List.toArray (c0 :: c1 :: c2 :: c3 :: c4 :: c5 :: c6 :: c7 :: c8 :: (.slice a 64 c) :: c10 :: c11 :: c12 :: u13 :: u14 :: u15 :: c16 :: c17 :: c18 :: c19 :: c20 :: c21 :: c22 :: c23 :: c24 :: c25 :: c26 :: c27 :: c28 :: c29 :: c30 :: c31 :: c32 :: c33 :: c34 :: c35 :: c36 :: c37 :: c38 :: c39 :: c40 :: c41 :: c42 :: c43 :: c44 :: c45 :: c46 :: c47 :: c48 :: c49 :: c50 :: c51 :: c52 :: c53 :: c54 :: c55 :: c56 :: c57 :: c58 :: c59 :: c60 :: c61 :: c62 :: c63 :: c64 :: c65 :: c66 :: c67 :: c68 :: c69 :: c70 :: c71 :: c72 :: c73 :: c74 :: c75 :: c76 :: c77 :: c78 :: c79 :: c80 :: c81 :: c82 :: c83 :: c84 :: c85 :: c86 :: c87 :: c88 :: c89 :: c90 :: c91 :: u92 :: u93 :: u94 :: u95 :: u96 :: u97 :: u98 :: u99 :: u100 :: u101 :: u102 :: u103 :: u104 :: u105 :: u106 :: u107 :: u108 :: u109 :: u110 :: u111 :: u112 :: u113 :: u114 :: u115 :: u116 :: u117 :: u118 :: u119 :: u120 :: u121 :: u122 :: u123 :: u124 :: u125 :: u126 :: u127 :: u128 :: u129 :: u130 :: u131 :: u132 :: u133 :: u134 :: u135 :: u136 :: u137 :: u138 :: u139 :: u140 :: u141 :: u142 :: u143 :: u144 :: u145 :: u146 :: u147 :: u148 :: u149 :: u150 :: u151 :: u152 :: u153 :: c154 :: c155 :: c156 :: c157 :: c158 :: c159 :: c160 :: c161 :: c162 :: c163 :: c164 :: c165 :: c166 :: c167 :: c168 :: c169 :: c170 :: c171 :: c172 :: c173 :: c174 :: c175 :: c176 :: c177 :: c178 :: c179 :: c180 :: c181 :: c182 :: c183 :: c184 :: c185 :: c186 :: c187 :: c188 :: c189 :: c190 :: c191 :: c192 :: c193 :: c194 :: c195 :: c196 :: c197 :: c198 :: c199 :: c200 :: c201 :: c202 :: c203 :: c204 :: c205 :: c206 :: c207 :: c208 :: c209 :: c210 :: c211 :: c212 :: c213 :: c214 :: c215 :: c216 :: c217 :: c218 :: c219 :: c220 :: c221 :: c222 :: c223 :: c224 :: c225 :: c226 :: c227 :: c228 :: c229 :: c230 :: c231 :: c232 :: c233 :: c234 :: c235 :: c236 :: c237 :: c238 :: c239 :: c240 :: c241 :: c242 :: c243 :: c244 :: c245 :: c246 :: c247 :: c248 :: c249 :: c250 :: c251 :: c252 :: c253 :: c254 :: c255 :: c256 :: c257 :: c258 :: c259 :: c260 :: c261 :: c262 :: c263 :: c264 :: c265 :: c266 :: c267 :: c268 :: c269 :: c270 :: c271 :: c272 :: c273 :: c274 :: c275 :: c276 :: c277 :: c278 :: c279 :: c280 :: c281 :: c282 :: c283 :: []), []⟩ w') :
    Code.wp Tryz.prog (.loop (refBody 5)) Q0 ⟨List.toArray (c0 :: c1 :: c2 :: c3 :: c4 :: c5 :: c6 :: c7 :: c8 :: (.slice a9 16 c9) :: c10 :: c11 :: c12 :: (.int .i64 16) :: c14 :: c15 :: c16 :: c17 :: c18 :: c19 :: c20 :: c21 :: c22 :: c23 :: c24 :: c25 :: c26 :: c27 :: c28 :: c29 :: c30 :: c31 :: c32 :: c33 :: c34 :: c35 :: c36 :: c37 :: c38 :: c39 :: c40 :: c41 :: c42 :: c43 :: c44 :: c45 :: c46 :: c47 :: c48 :: c49 :: c50 :: c51 :: c52 :: c53 :: c54 :: c55 :: c56 :: c57 :: c58 :: c59 :: c60 :: c61 :: c62 :: c63 :: c64 :: c65 :: c66 :: c67 :: c68 :: c69 :: c70 :: c71 :: c72 :: c73 :: c74 :: c75 :: c76 :: c77 :: c78 :: c79 :: c80 :: c81 :: c82 :: c83 :: c84 :: c85 :: c86 :: c87 :: c88 :: c89 :: c90 :: c91 :: c92 :: c93 :: c94 :: c95 :: c96 :: c97 :: c98 :: c99 :: c100 :: c101 :: c102 :: c103 :: c104 :: c105 :: c106 :: c107 :: c108 :: c109 :: c110 :: c111 :: c112 :: c113 :: c114 :: c115 :: c116 :: c117 :: c118 :: c119 :: c120 :: c121 :: c122 :: c123 :: c124 :: c125 :: c126 :: c127 :: c128 :: c129 :: c130 :: c131 :: c132 :: c133 :: c134 :: c135 :: c136 :: c137 :: c138 :: c139 :: c140 :: c141 :: c142 :: c143 :: c144 :: c145 :: c146 :: c147 :: c148 :: c149 :: c150 :: c151 :: c152 :: c153 :: c154 :: c155 :: c156 :: c157 :: c158 :: c159 :: c160 :: c161 :: c162 :: c163 :: c164 :: c165 :: c166 :: c167 :: c168 :: c169 :: c170 :: c171 :: c172 :: c173 :: c174 :: c175 :: c176 :: c177 :: c178 :: c179 :: c180 :: c181 :: c182 :: c183 :: c184 :: c185 :: c186 :: c187 :: c188 :: c189 :: c190 :: c191 :: c192 :: c193 :: c194 :: c195 :: c196 :: c197 :: c198 :: c199 :: c200 :: c201 :: c202 :: c203 :: c204 :: c205 :: c206 :: c207 :: c208 :: c209 :: c210 :: c211 :: c212 :: c213 :: c214 :: c215 :: c216 :: c217 :: c218 :: c219 :: c220 :: c221 :: c222 :: c223 :: c224 :: c225 :: c226 :: c227 :: c228 :: c229 :: c230 :: c231 :: c232 :: c233 :: c234 :: c235 :: c236 :: c237 :: c238 :: c239 :: c240 :: c241 :: c242 :: c243 :: c244 :: c245 :: c246 :: c247 :: c248 :: c249 :: c250 :: c251 :: c252 :: c253 :: c254 :: c255 :: c256 :: c257 :: c258 :: c259 :: c260 :: c261 :: c262 :: c263 :: c264 :: c265 :: c266 :: c267 :: c268 :: c269 :: c270 :: c271 :: c272 :: c273 :: c274 :: c275 :: c276 :: c277 :: c278 :: c279 :: c280 :: c281 :: c282 :: c283 :: []), []⟩ w := by
  obtain ⟨i0, hi, hz0, hz1, hz2⟩ := info_parts Tryz.info65
  have HE := Lib.hid hexit
  have HQ := Lib.hid hQ
  clear hexit hQ
  conv => arg 2; arg 1; whnf
  go_loopw [9, 13] (fun sv i wr => ∃ (n c : Nat) (a : Option Addr), n ≤ 48 ∧ i = .int .i64 ((16 + n : Nat) : Int) ∧ sv = .slice a (16 + n) c ∧ wr.ownsRow w0.heap.size 65 1 sv (16 + n) ((sched blk n).map (Value.int .u32)) ∧ Turn (fun _ => False) w0 wr) (fun _ i _ => 64 - (intOf i).toNat)
  case atStart => exact ⟨0, c9, a9, Nat.zero_le _, rfl, rfl, ho0, hT0⟩
  case round =>
    clear ho0 hT0
    obtain ⟨n, c, a, hk', rfl, rfl, ho, hT⟩ := hrel
    have hsz := hT.size
    by_cases hlt : n < 48
    · obtain ⟨g, c', hv, hgb, hglt⟩ := own_some39 ho (by omega)
      cases hv
      obtain ⟨m, hm⟩ : ∃ m, 16 + n = m := ⟨_, rfl⟩
      have ca := own_cell39 ho (m - 15) (by omega)
      have cb := own_cell39 ho (m - 2) (by omega)
      have cc := own_cell39 ho (m - 16) (by omega)
      have cd := own_cell39 ho (m - 7) (by omega)
      have hnx : next (sched blk n) (16 + n) = IntKind.u32.wrap (IntKind.u32.wrap (IntKind.u32.wrap ((sched blk n).getD (m - 16) 0 + sig0 ((sched blk n).getD (m - 15) 0)) + (sched blk n).getD (m - 7) 0) + sig1 ((sched blk n).getD (m - 2) 0)) := by
        rw [hm]; rfl
      have HN := Lib.hid hnx
      have HM := Lib.hid hm
      have HO := Lib.hid ho
      have HT := Lib.hid hT
      clear hnx ho hT
      generalize (sched blk n).getD (m - 15) 0 = xa at ca HN
      generalize (sched blk n).getD (m - 2) 0 = xb at cb HN
      generalize (sched blk n).getD (m - 16) 0 = xc at cc HN
      generalize (sched blk n).getD (m - 7) 0 = xd at cd HN
      have hm1 : 16 ≤ m := by omega
      have hm2 : m < 64 := by omega
      rw [hm] at HO
      simp only [hm]
      clear hm
      have dl : decide ((m : Int) < 64) = true := by simp; omega
      have f15 : IntKind.i64.wrap ((m : Int) - 15) = (m : Int) - 15 := IntWalk.i64_in _ (by omega)
      have f2 : IntKind.i64.wrap ((m : Int) - 2) = (m : Int) - 2 := IntWalk.i64_in _ (by omega)
      have f16 : IntKind.i64.wrap ((m : Int) - 16) = (m : Int) - 16 := IntWalk.i64_in _ (by omega)
      have f7 : IntKind.i64.wrap ((m : Int) - 7) = (m : Int) - 7 := IntWalk.i64_in _ (by omega)
      have g15 : 0 ≤ (m : Int) - 15 ∧ (m : Int) - 15 < (m : Int) := by omega
      have g2 : 0 ≤ (m : Int) - 2 ∧ (m : Int) - 2 < (m : Int) := by omega
      have g16 : 0 ≤ (m : Int) - 16 ∧ (m : Int) - 16 < (m : Int) := by omega
      have g7 : 0 ≤ (m : Int) - 7 ∧ (m : Int) - 7 < (m : Int) := by omega
      have i16 : (16 : Int) ≤ (m : Int) := by omega
      have i7 : (7 : Int) ≤ (m : Int) := by omega
      have n15 : ((m : Int) - 15).toNat = m - 15 := by omega
      have n2 : ((m : Int) - 2).toNat = m - 2 := by omega
      have n16 : ((m : Int) - 16).toNat = m - 16 := by omega
      have n7 : ((m : Int) - 7).toNat = m - 7 := by omega
      go_wp2_with fail
      go_quiet (first | (go_at_call_of 27 (Value.int IntKind.i64 7); exact Calls.quiet_of (refturn_at _ 7 rfl xa (by omega) (by omega) _)) | (go_at_call_of 27 (Value.int IntKind.i64 18); exact Calls.quiet_of (refturn_at _ 18 rfl xa (by omega) (by omega) _)))
      have HO2 : Hid ((wr.drewN nq).ownsRow w0.heap.size 65 1 (.slice (some ⟨g, 0, none⟩) m c) m ((sched blk n).map (Value.int .u32))) := HO.out
      have HT2 := Lib.hid (HT.out.drewN nq)
      have cb2 : (wr.drewN nq).cell? ⟨g, m - 2, none⟩ = some (.int .u32 xb) := cb
      have cc2 : (wr.drewN nq).cell? ⟨g, m - 16, none⟩ = some (.int .u32 xc) := cc
      have cd2 : (wr.drewN nq).cell? ⟨g, m - 7, none⟩ = some (.int .u32 xd) := cd
      have hgl2 : g < (wr.drewN nq).heap.size := hglt
      have hsz2 : w0.heap.size ≤ (wr.drewN nq).heap.size := hsz
      change Exit.then _ _ _ _ (wr.drewN nq)
      generalize wr.drewN nq = w2 at HO2 HT2 cb2 cc2 cd2 hgl2 hsz2 ⊢
      clear ca cb cc cd HO HT hglt hsz
      go_wp2_with fail
      go_quiet (first | (go_at_call_of 27 (Value.int IntKind.i64 17); exact Calls.quiet_of (refturn_at _ 17 rfl xb (by omega) (by omega) _)) | (go_at_call_of 27 (Value.int IntKind.i64 19); exact Calls.quiet_of (refturn_at _ 19 rfl xb (by omega) (by omega) _)))
      have HO3 : Hid ((w2.drewN nq).ownsRow w0.heap.size 65 1 (.slice (some ⟨g, 0, none⟩) m c) m ((sched blk n).map (Value.int .u32))) := HO2.out
      have HT3 := Lib.hid (HT2.out.drewN nq)
      have cc3 : (w2.drewN nq).cell? ⟨g, m - 16, none⟩ = some (.int .u32 xc) := cc2
      have cd3 : (w2.drewN nq).cell? ⟨g, m - 7, none⟩ = some (.int .u32 xd) := cd2
      have hgl3 : g < (w2.drewN nq).heap.size := hgl2
      have hsz3 : w0.heap.size ≤ (w2.drewN nq).heap.size := hsz2
      generalize w2.drewN nq = w3 at HO3 HT3 cc3 cd3 hgl3 hsz3 ⊢
      clear cb2 cc2 cd2 HO2 HT2 hgl2 hsz2
      have esa : bits .xor .u32 (bits .xor .u32 (rotr 7 xa) (rotr 18 xa)) (xa / 8) = sig0 xa := rfl
      have esb : bits .xor .u32 (bits .xor .u32 (rotr 17 xb) (rotr 19 xb)) (xb / 1024) = sig1 xb := rfl
      simp only [esa, esb]
      generalize sig0 xa = ya at HN ⊢
      generalize sig1 xb = yb at HN ⊢
      clear esa esb
      go_wp2_with fail
      generalize hnn : next (sched blk n) (16 + n) = nx at HN
      have HNN := Lib.hid hnn
      clear hnn
      obtain ⟨w4, hw4⟩ : ∃ w4, w3.drew.alloc (.cells #[.int .u32 nx] 65) = w4 := ⟨_, rfl⟩
      have t4 : Turn (fun _ => False) w3 w4 := by rw [← hw4]; exact ((Turn.refl _ w3).drew).alloc _
      have o4 : w4.ownsRow w0.heap.size 65 1 (.slice (some ⟨g, 0, none⟩) m c) m ((sched blk n).map (Value.int .u32)) := by rw [← hw4]; exact World.ownsRow.alloc (w := w3.drew) HO3.out _
      have hnews : ∀ (j : Nat) u, [Value.int .u32 nx][j]? = some u → w4.cell? ((⟨w3.heap.size, 0, none⟩ : Addr).add j) = some u := by rw [← hw4]; exact one_cell65 w3.drew nx
      have h1c : ∀ u ∈ [Value.int .u32 nx], u.oneCell' = true := fun u hu => by simp at hu; subst hu; rfl
      obtain ⟨v5, w5, hap, ho5, hg5, _⟩ := run_append_own (P := Tryz.prog) w4 w0.heap.size 66 66 65 i0 (.int .u32 0) 1 4 Tryz.underlying66 hi hz0 hz1 hz2 rfl (by decide) (.slice (some ⟨g, 0, none⟩) m c) m _ o4 ⟨w3.heap.size, 0, none⟩ 1 1 [.int .u32 nx] rfl hnews h1c (by unfold maxLen; omega) (by omega) (by have := t4.size; omega)
      have hkeep := append_keeps (P := Tryz.prog) w4 66 66 65 i0 (.int .u32 0) 4 Tryz.underlying66 hi hz0 hz1 hz2 w0.heap.size g c m _ o4 ⟨w3.heap.size, 0, none⟩ (.int .u32 nx) 1 hnews h1c (by unfold maxLen; omega) (by omega) v5 w5 hap
      have cc4 := (t4.cell (p := ⟨g, m - 16, none⟩) hgl3 id).trans cc3
      have cd4 := (t4.cell (p := ⟨g, m - 7, none⟩) hgl3 id).trans cd3
      have cc5 := (hkeep (m - 16) (by omega)).trans cc4
      have cd5 := (hkeep (m - 7) (by omega)).trans cd4
      have T5 := Lib.hid ((HT3.out.trans t4 (fun _ _ => id)).grown hg5 (fun q h hq => by have := (o4.lt q h).1; omega))
      have HO5 := Lib.hid ho5
      obtain ⟨a5, c5, hv5⟩ := own_slice39 ho5
      subst hv5
      have HW4 := Lib.hid hw4
      have HAP := Lib.hid hap
      clear hap ho5 hg5 hkeep hnews h1c t4 o4 hw4
      refine wp_region_held_drew (S := fun w' => w'.cell? ⟨g, m - 16, none⟩ = some (.int .u32 xc) ∧ w'.cell? ⟨g, m - 7, none⟩ = some (.int .u32 xd)) (by kernel_rfl) ⟨cc3, cd3⟩ (fun hHeld => ?_)
      refine wpAnyH_take (i := 0) (v := ?v0) rfl (by kernel_rfl) (by kernel_rfl) (by kernel_rfl) (fun _ _ _ h => HQ.out _ _ _ _ _ h) (Or.inl ⟨by rfl, ?y0⟩) (by assumption) ?r0
      case y0 => (intro w hSw; (try dsimp only at hSw); (try simp only [zq1, zq2, zq3]); go_simp; try with_reducible rfl)
      case r0 =>
      try simp only [Act.put, zq4, zq5, zq6, zq1, zq2, zq3]
      refine wpAnyH_take (i := 1) (v := ?v1) rfl (by kernel_rfl) (by kernel_rfl) (by kernel_rfl) (fun _ _ _ h => HQ.out _ _ _ _ _ h) (Or.inl ⟨by rfl, ?y1⟩) (by assumption) ?r1
      case y1 => (intro w hSw; (try dsimp only at hSw); (try simp only [zq1, zq2, zq3]); go_simp; try with_reducible rfl)
      case r1 =>
      try simp only [Act.put, zq4, zq5, zq6, zq1, zq2, zq3]
      refine wpAnyH_take (i := 2) (v := ?v2) rfl (by kernel_rfl) (by kernel_rfl) (by kernel_rfl) (fun _ _ _ h => HQ.out _ _ _ _ _ h) (Or.inl ⟨by rfl, ?y2⟩) (by assumption) ?r2
      case y2 => (intro w hSw; (try dsimp only at hSw); (try simp only [zq1, zq2, zq3]); go_simp; try with_reducible rfl)
      case r2 =>
      try simp only [Act.put, zq4, zq5, zq6, zq1, zq2, zq3]
      refine wpAnyH_take (i := 3) (v := ?v3) rfl (by kernel_rfl) (by kernel_rfl) (by kernel_rfl) (fun _ _ _ h => HQ.out _ _ _ _ _ h) (Or.inl ⟨by rfl, ?y3⟩) (by assumption) ?r3
      case y3 => (intro w hSw; (try dsimp only at hSw); (try simp only [zq1, zq2, zq3]); go_simp; try with_reducible rfl)
      case r3 =>
      try simp only [Act.put, zq4, zq5, zq6, zq1, zq2, zq3]
      refine wpAnyH_take (i := 4) (v := ?v4) rfl (by kernel_rfl) (by kernel_rfl) (by kernel_rfl) (fun _ _ _ h => HQ.out _ _ _ _ _ h) (Or.inl ⟨by rfl, ?y4⟩) (by assumption) ?r4
      case y4 => (intro w hSw; (try dsimp only at hSw); (try simp only [zq1, zq2, zq3]); go_simp; try with_reducible rfl)
      case r4 =>
      try simp only [Act.put, zq4, zq5, zq6, zq1, zq2, zq3]
      refine wpAnyH_take (i := 5) (v := ?v5) rfl (by kernel_rfl) (by kernel_rfl) (by kernel_rfl) (fun _ _ _ h => HQ.out _ _ _ _ _ h) (Or.inl ⟨by rfl, ?y5⟩) (by assumption) ?r5
      case y5 => (intro w hSw; (try dsimp only at hSw); (try simp only [zq1, zq2, zq3]); go_simp; try with_reducible rfl)
      case r5 =>
      try simp only [Act.put, zq4, zq5, zq6, zq1, zq2, zq3]
      refine wpAnyH_take (i := 6) (v := ?v6) rfl (by kernel_rfl) (by kernel_rfl) (by kernel_rfl) (fun _ _ _ h => HQ.out _ _ _ _ _ h) (Or.inl ⟨by rfl, ?y6⟩) (by assumption) ?r6
      case y6 => (intro w hSw; (try dsimp only at hSw); (try simp only [zq1, zq2, zq3]); go_simp; try with_reducible rfl)
      case r6 =>
      try simp only [Act.put, zq4, zq5, zq6, zq1, zq2, zq3]
      refine wpAnyH_take (i := 7) (v := ?v7) rfl (by kernel_rfl) (by kernel_rfl) (by kernel_rfl) (fun _ _ _ h => HQ.out _ _ _ _ _ h) (Or.inl ⟨by rfl, ?y7⟩) (by assumption) ?r7
      case y7 => (intro w hSw; (try dsimp only at hSw); (try simp only [zq1, zq2, zq3]); go_simp; try with_reducible rfl)
      case r7 =>
      try simp only [Act.put, zq4, zq5, zq6, zq1, zq2, zq3]
      refine wpAnyH_take (i := 8) (v := ?v8) rfl (by kernel_rfl) (by kernel_rfl) (by kernel_rfl) (fun _ _ _ h => HQ.out _ _ _ _ _ h) (Or.inl ⟨by rfl, ?y8⟩) (by assumption) ?r8
      case y8 => (intro w hSw; (try dsimp only at hSw); (try simp only [zq1, zq2, zq3]); go_simp; try with_reducible rfl)
      case r8 =>
      try simp only [Act.put, zq4, zq5, zq6, zq1, zq2, zq3]
      refine wpAnyH_take (i := 9) (v := ?v9) rfl (by kernel_rfl) (by kernel_rfl) (by kernel_rfl) (fun _ _ _ h => HQ.out _ _ _ _ _ h) (Or.inl ⟨by rfl, ?y9⟩) (by assumption) ?r9
      case y9 => (intro w hSw; (try dsimp only at hSw); (try simp only [zq1, zq2, zq3]); go_simp; try with_reducible rfl)
      case r9 =>
      try simp only [Act.put, zq4, zq5, zq6, zq1, zq2, zq3]
      refine wpAnyH_take (i := 10) (v := ?v10) rfl (by kernel_rfl) (by kernel_rfl) (by kernel_rfl) (fun _ _ _ h => HQ.out _ _ _ _ _ h) (Or.inl ⟨by rfl, ?y10⟩) (by assumption) ?r10
      case y10 => (intro w hSw; (try dsimp only at hSw); (try simp only [zq1, zq2, zq3]); go_simp; try with_reducible rfl)
      case r10 =>
      try simp only [Act.put, zq4, zq5, zq6, zq1, zq2, zq3]
      refine wpAnyH_take (i := 11) (v := ?v11) rfl (by kernel_rfl) (by kernel_rfl) (by kernel_rfl) (fun _ _ _ h => HQ.out _ _ _ _ _ h) (Or.inl ⟨by rfl, ?y11⟩) (by assumption) ?r11
      case y11 => (intro w hSw; (try dsimp only at hSw); (try simp only [zq1, zq2, zq3]); go_simp; try with_reducible rfl)
      case r11 =>
      try simp only [Act.put, zq4, zq5, zq6, zq1, zq2, zq3]
      refine wpAnyH_take (i := 12) (v := ?v12) rfl (by kernel_rfl) (by kernel_rfl) (by kernel_rfl) (fun _ _ _ h => HQ.out _ _ _ _ _ h) (Or.inl ⟨by rfl, ?y12⟩) (by assumption) ?r12
      case y12 => (intro w hSw; (try dsimp only at hSw); (try simp only [zq1, zq2, zq3]); go_simp; try with_reducible rfl)
      case r12 =>
      try simp only [Act.put, zq4, zq5, zq6, zq1, zq2, zq3]
      refine wpAnyH_take (i := 13) (v := ?v13) rfl (by kernel_rfl) (by kernel_rfl) (by kernel_rfl) (fun _ _ _ h => HQ.out _ _ _ _ _ h) (Or.inl ⟨by rfl, ?y13⟩) (by assumption) ?r13
      case y13 => (intro w hSw; (try dsimp only at hSw); (try simp only [zq1, zq2, zq3]); go_simp; try with_reducible rfl)
      case r13 =>
      try simp only [Act.put, zq4, zq5, zq6, zq1, zq2, zq3]
      refine wpAnyH_take (i := 14) (v := ?v14) rfl (by kernel_rfl) (by kernel_rfl) (by kernel_rfl) (fun _ _ _ h => HQ.out _ _ _ _ _ h) (Or.inl ⟨by rfl, ?y14⟩) (by assumption) ?r14
      case y14 => (intro w hSw; (try dsimp only at hSw); (try simp only [zq1, zq2, zq3]); go_simp; try with_reducible rfl)
      case r14 =>
      try simp only [Act.put, zq4, zq5, zq6, zq1, zq2, zq3]
      refine wpAnyH_take (i := 15) (v := ?v15) rfl (by kernel_rfl) (by kernel_rfl) (by kernel_rfl) (fun _ _ _ h => HQ.out _ _ _ _ _ h) (Or.inl ⟨by rfl, ?y15⟩) (by assumption) ?r15
      case y15 => (intro w hSw; (try dsimp only at hSw); (try simp only [zq1, zq2, zq3]); go_simp; try with_reducible rfl)
      case r15 =>
      try simp only [Act.put, zq4, zq5, zq6, zq1, zq2, zq3]
      refine wpAnyH_ready (rs := [16]) (by kernel_rfl) (by simp) ?_
      refine AllReadyH.cons rfl (fun K hK => ?_) AllReadyH.nil
      go_simp
      rw [← HN.out]
      change K _ (w3.drew.alloc (.cells #[.int .u32 nx] 65))
      rw [HW4.out]
      refine hK.out _ _ ⟨cc4, cd4⟩ (fun _ => ?_)
      clear hK K
      try simp only [Act.put, zq4, zq5, zq6, zq1, zq2, zq3]
      refine wpAnyH_ready (rs := [17]) (by kernel_rfl) (by simp) ?_
      refine AllReadyH.cons rfl (fun K hK => ?_) AllReadyH.nil
      rw [if_pos (by rfl)]
      refine oper_exec _ _ (exec_append _ _ (.tmp 136) (.tmp 152) 66 rfl _ _ _ _ _ rfl rfl HAP.out) ?_
      refine hK.out _ _ ⟨cc5, cd5⟩ (fun _ => ?_)
      clear hK K
      try simp only [Act.put, zq4, zq5, zq6, zq1, zq2, zq3]
      refine wpAnyH_take (i := 18) (v := ?v18) rfl (by kernel_rfl) (by kernel_rfl) (by kernel_rfl) (fun _ _ _ h => HQ.out _ _ _ _ _ h) (Or.inl ⟨by rfl, ?y18⟩) (by assumption) ?r18
      case y18 => (intro w hSw; (try dsimp only at hSw); (try simp only [zq1, zq2, zq3]); go_simp; try with_reducible rfl)
      case r18 =>
      try simp only [Act.put, zq4, zq5, zq6, zq1, zq2, zq3]
      refine wpAnyH_done (by kernel_rfl) ?_ _
      clear cc4 cd4 cc5 cd5 cc3 cd3 hHeld f15 f2 f16 f7 g15 g2 g16 g7 n15 n2 n16 n7
      go_wp2_with fail
      go_roundw
      case rel =>
        have hm := HM.out
        refine ⟨n + 1, _, _, by omega, by rw [← hm]; go_num, by rw [← hm]; rfl, ?_, T5.out⟩
        rw [sched, HNN.out, List.map_append]
        have := HO5.out
        rw [← hm] at this ⊢
        exact this
      case measure => have hm := HM.out; simp [intOf]; omega
    · have dl : decide (((16 + n : Nat) : Int) < 64) = false := by simp; omega
      obtain rfl : n = 48 := by omega
      have HO := Lib.hid ho
      have HT := Lib.hid hT
      clear ho hT
      go_wp2_with fail
      exact HE.out _ _ _ _ _ _ _ _ _ _ _ _ _ _ _ _ _ _ _ _ _ _ _ _ _ _ _ _ _ _ _ _ _ _ _ _ _ _ _ _ _ _ _ _ _ _ _ _ _ _ _ _ _ _ _ _ _ _ _ _ _ _ _ _ _ _ _ _ HO.out HT.out
end Go.Proofs.YtboofamenpcnhaaGreatDoor.RefT
