/- Own: loops of ExtentPlays. No statement is proved here. -/
import Derived.Test.YtmhdcpkncaghpaaPlay
namespace Go.Proofs.Ytmhdcpkncaghpaa
open Go.RowKit
set_option linter.unusedVariables false
set_option linter.unusedSimpArgs false
set_option maxHeartbeats 4000000 in
set_option maxRecDepth 1000000 in
theorem plays_can (UB AB k : Nat) (At M : Int) (f0 tk : Bool) (us : List Bool) (c0 c1 c2 c3 c4 c5 c6 c8 c10 c11 c12 c13 c14 c18 c19 c20 c21 c22 c23 c24 c25 c26 c27 c28 c29 c30 c31 c32 c33 c34 c35 c36 c37 c38 c39 c40 c41 c42 c43 c44 c45 c46 c47 c48 c49 c50 c51 c52 c53 c54 c55 c56 c57 c58 c59 c60 c61 c62 c63 c64 c65 c66 c67 c68 c69 c70 c71 c72 c73 c74 c75 c76 c77 c78 c79 c80 c81 c82 c83 c84 c85 c86 c87 c88 c89 c90 c91 c92 c93 c94 c95 c96 c97 c98 c99 c100 c101 c102 c103 c104 c105 c106 c107 c108 c109 c110 c111 c112 c113 c114 c115 c116 c117 c118 c119 c120 c121 c122 c123 c124 c125 c126 c127 c128 c129 c130 c131 c132 c133 c134 c135 c136 c137 c138 c139 c140 c141 c142 c143 c144 c145 c146 c147 c148 c149 c150 c151 c152 c153 c154 c155 c156 c157 c158 c159 c160 c161 c162 c163 c164 c165 c166 c167 c168 c169 c170 c171 c172 c173 c174 c175 c176 c177 c178 c179 c180 c181 c182 c183 c184 c185 c186 c187 c188 c189 c190 c191 c192 c193 c194 c195 c196 c197 c198 c199 c200 c201 c202 c203 c204 c205 c206 c207 c208 c209 c210 c211 c212 c213 c214 c215 c216 c217 c218 c219 c220 c221 c222 c223 c224 c225 c226 c227 c228 c229 c230 c231 c232 c233 c234 : Value) (w : World) (Q0 : Exit → Act → World → Prop)
    (hk : k ≤ 1000) (hA : w.cell? ⟨AB, 1, none⟩ = some (.int .i64 At)) (hM : w.cell? ⟨AB, 2, none⟩ = some (.int .i64 M)) (hus : TrueIn w UB us) (hul : us.length = k) (hf : f0 = true → 0 ≤ At ∧ 0 ≤ M ∧ At + M ≤ k)
    (hexit : ∀ (u17 u146 u147 u148 u149 u150 u151 u152 u153 u154 u155 u156 u157 u158 u159 u160 u161 u162 u163 : Value), Q0 (.exit 8) ⟨List.toArray (c0 :: c1 :: c2 :: c3 :: c4 :: c5 :: c6 :: (.slice (some ⟨UB, 0, none⟩) k k) :: c8 :: (.pointer (some ⟨AB, 0, none⟩)) :: c10 :: c11 :: c12 :: c13 :: c14 :: (.bool tk) :: (.bool (f0 && allNe us tk At.toNat M.toNat)) :: u17 :: c18 :: c19 :: c20 :: c21 :: c22 :: c23 :: c24 :: c25 :: c26 :: c27 :: c28 :: c29 :: c30 :: c31 :: c32 :: c33 :: c34 :: c35 :: c36 :: c37 :: c38 :: c39 :: c40 :: c41 :: c42 :: c43 :: c44 :: c45 :: c46 :: c47 :: c48 :: c49 :: c50 :: c51 :: c52 :: c53 :: c54 :: c55 :: c56 :: c57 :: c58 :: c59 :: c60 :: c61 :: c62 :: c63 :: c64 :: c65 :: c66 :: c67 :: c68 :: c69 :: c70 :: c71 :: c72 :: c73 :: c74 :: c75 :: c76 :: c77 :: c78 :: c79 :: c80 :: c81 :: c82 :: c83 :: c84 :: c85 :: c86 :: c87 :: c88 :: c89 :: c90 :: c91 :: c92 :: c93 :: c94 :: c95 :: c96 :: c97 :: c98 :: c99 :: c100 :: c101 :: c102 :: c103 :: c104 :: c105 :: c106 :: c107 :: c108 :: c109 :: c110 :: c111 :: c112 :: c113 :: c114 :: c115 :: c116 :: c117 :: c118 :: c119 :: c120 :: c121 :: c122 :: c123 :: c124 :: c125 :: c126 :: c127 :: c128 :: c129 :: c130 :: c131 :: c132 :: c133 :: c134 :: c135 :: c136 :: c137 :: c138 :: c139 :: c140 :: c141 :: c142 :: c143 :: c144 :: c145 :: u146 :: u147 :: u148 :: u149 :: u150 :: u151 :: u152 :: u153 :: u154 :: u155 :: u156 :: u157 :: u158 :: u159 :: u160 :: u161 :: u162 :: u163 :: c164 :: c165 :: c166 :: c167 :: c168 :: c169 :: c170 :: c171 :: c172 :: c173 :: c174 :: c175 :: c176 :: c177 :: c178 :: c179 :: c180 :: c181 :: c182 :: c183 :: c184 :: c185 :: c186 :: c187 :: c188 :: c189 :: c190 :: c191 :: c192 :: c193 :: c194 :: c195 :: c196 :: c197 :: c198 :: c199 :: c200 :: c201 :: c202 :: c203 :: c204 :: c205 :: c206 :: c207 :: c208 :: c209 :: c210 :: c211 :: c212 :: c213 :: c214 :: c215 :: c216 :: c217 :: c218 :: c219 :: c220 :: c221 :: c222 :: c223 :: c224 :: c225 :: c226 :: c227 :: c228 :: c229 :: c230 :: c231 :: c232 :: c233 :: c234 :: []), []⟩ w) :
    Code.wp Try.prog (.loop (playBody 4)) Q0 ⟨List.toArray (c0 :: c1 :: c2 :: c3 :: c4 :: c5 :: c6 :: (.slice (some ⟨UB, 0, none⟩) k k) :: c8 :: (.pointer (some ⟨AB, 0, none⟩)) :: c10 :: c11 :: c12 :: c13 :: c14 :: (.bool tk) :: (.bool f0) :: (.int .i64 0) :: c18 :: c19 :: c20 :: c21 :: c22 :: c23 :: c24 :: c25 :: c26 :: c27 :: c28 :: c29 :: c30 :: c31 :: c32 :: c33 :: c34 :: c35 :: c36 :: c37 :: c38 :: c39 :: c40 :: c41 :: c42 :: c43 :: c44 :: c45 :: c46 :: c47 :: c48 :: c49 :: c50 :: c51 :: c52 :: c53 :: c54 :: c55 :: c56 :: c57 :: c58 :: c59 :: c60 :: c61 :: c62 :: c63 :: c64 :: c65 :: c66 :: c67 :: c68 :: c69 :: c70 :: c71 :: c72 :: c73 :: c74 :: c75 :: c76 :: c77 :: c78 :: c79 :: c80 :: c81 :: c82 :: c83 :: c84 :: c85 :: c86 :: c87 :: c88 :: c89 :: c90 :: c91 :: c92 :: c93 :: c94 :: c95 :: c96 :: c97 :: c98 :: c99 :: c100 :: c101 :: c102 :: c103 :: c104 :: c105 :: c106 :: c107 :: c108 :: c109 :: c110 :: c111 :: c112 :: c113 :: c114 :: c115 :: c116 :: c117 :: c118 :: c119 :: c120 :: c121 :: c122 :: c123 :: c124 :: c125 :: c126 :: c127 :: c128 :: c129 :: c130 :: c131 :: c132 :: c133 :: c134 :: c135 :: c136 :: c137 :: c138 :: c139 :: c140 :: c141 :: c142 :: c143 :: c144 :: c145 :: c146 :: c147 :: c148 :: c149 :: c150 :: c151 :: c152 :: c153 :: c154 :: c155 :: c156 :: c157 :: c158 :: c159 :: c160 :: c161 :: c162 :: c163 :: c164 :: c165 :: c166 :: c167 :: c168 :: c169 :: c170 :: c171 :: c172 :: c173 :: c174 :: c175 :: c176 :: c177 :: c178 :: c179 :: c180 :: c181 :: c182 :: c183 :: c184 :: c185 :: c186 :: c187 :: c188 :: c189 :: c190 :: c191 :: c192 :: c193 :: c194 :: c195 :: c196 :: c197 :: c198 :: c199 :: c200 :: c201 :: c202 :: c203 :: c204 :: c205 :: c206 :: c207 :: c208 :: c209 :: c210 :: c211 :: c212 :: c213 :: c214 :: c215 :: c216 :: c217 :: c218 :: c219 :: c220 :: c221 :: c222 :: c223 :: c224 :: c225 :: c226 :: c227 :: c228 :: c229 :: c230 :: c231 :: c232 :: c233 :: c234 :: []), []⟩ w := by
  have HE := Lib.hid hexit
  have HU := Lib.hid hus
  have HL := Lib.hid hul
  have HF := Lib.hid hf
  clear hexit hus hul hf
  conv => arg 2; arg 1; whnf
  go_loopw [16, 17] (fun fv jv wi => ∃ (j : Nat), j ≤ M.toNat ∧ jv = .int .i64 (j : Int) ∧ fv = .bool (f0 && allNe us tk At.toNat j) ∧ w = wi) (fun _ jv _ => M.toNat - (intOf jv).toNat)
  case atStart => exact ⟨0, by omega, rfl, by simp [allNe], rfl⟩
  case round =>
    obtain ⟨j, hj, rfl, rfl, rfl⟩ := hrel
    cases hb : (f0 && allNe us tk At.toNat j) with
    | false =>
      have HX := Lib.hid (show (f0 && allNe us tk At.toNat M.toNat) = false from by
        cases f0 with
        | false => rfl
        | true => simp at hb; simp; exact allNe_mono hj hb)
      clear hb
      go_wp2_with fail
      rw [HX.out] at HE
      exact HE.out _ _ _ _ _ _ _ _ _ _ _ _ _ _ _ _ _ _ _
    | true =>
      have hf1 : f0 = true := by simp at hb; exact hb.1
      obtain ⟨a0, m0, m1⟩ := HF.out hf1
      obtain ⟨m, hm⟩ := Int.eq_ofNat_of_zero_le m0
      obtain ⟨a, ha⟩ := Int.eq_ofNat_of_zero_le a0
      subst ha
      rw [Int.toNat_natCast] at hb HE
      by_cases hlt : j < m
      · have c1 := HU.out.cell (a + j) (by rw [HL.out]; omega)
        have HX := Lib.hid (show (f0 && allNe us tk a (j + 1)) = (us.getD (a + j) false != tk) from by
          rw [allNe, ← Bool.and_assoc, hb]; rfl)
        generalize us.getD (a + j) false = x at c1 HX
        subst hm
        have hI : (j : Int) < (m : Int) := by omega
        have hb2 : (0 : Int) ≤ (a : Int) + (j : Int) ∧ (a : Int) + (j : Int) < (k : Int) := by omega
        have htn : ((a : Int) + (j : Int)).toNat = a + j := by omega
        clear hb hf1
        cases x <;> cases tk <;> (
        go_wp2_with fail
        exact ⟨⟨j + 1, by omega, by go_num, by rw [Int.toNat_natCast, HX.out]; rfl, trivial⟩, by simp [intOf]; omega⟩)
      · subst hm
        obtain rfl : j = m := by simp at hj; omega
        have hI : ¬ ((j : Int) < (j : Int)) := by omega
        have HX := Lib.hid (show (f0 && allNe us tk a (Int.toNat (j : Int))) = true from by simpa using hb)
        clear hb hf1
        go_wp2_with fail
        rw [HX.out] at HE
        exact HE.out _ _ _ _ _ _ _ _ _ _ _ _ _ _ _ _ _ _ _
end Go.Proofs.Ytmhdcpkncaghpaa
