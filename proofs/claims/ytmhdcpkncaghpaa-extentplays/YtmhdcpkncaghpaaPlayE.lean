/- Own: loops of ExtentPlays. No statement is proved here. -/
import Derived.Test.YtmhdcpkncaghpaaPlay
namespace Go.Proofs.Ytmhdcpkncaghpaa
open Go.RowKit
set_option linter.unusedVariables false
set_option linter.unusedSimpArgs false
set_option maxHeartbeats 4000000 in
set_option maxRecDepth 1000000 in
theorem plays_set (UB AB k : Nat) (At M : Int) (f0 tk : Bool) (us : List Bool) (c0 c1 c2 c3 c4 c5 c6 c8 c10 c11 c12 c13 c14 c17 c18 c20 c21 c22 c23 c24 c25 c26 c27 c28 c29 c30 c31 c32 c33 c34 c35 c36 c37 c38 c39 c40 c41 c42 c43 c44 c45 c46 c47 c48 c49 c50 c51 c52 c53 c54 c55 c56 c57 c58 c59 c60 c61 c62 c63 c64 c65 c66 c67 c68 c69 c70 c71 c72 c73 c74 c75 c76 c77 c78 c79 c80 c81 c82 c83 c84 c85 c86 c87 c88 c89 c90 c91 c92 c93 c94 c95 c96 c97 c98 c99 c100 c101 c102 c103 c104 c105 c106 c107 c108 c109 c110 c111 c112 c113 c114 c115 c116 c117 c118 c119 c120 c121 c122 c123 c124 c125 c126 c127 c128 c129 c130 c131 c132 c133 c134 c135 c136 c137 c138 c139 c140 c141 c142 c143 c144 c145 c146 c147 c148 c149 c150 c151 c152 c153 c154 c155 c156 c157 c158 c159 c160 c161 c162 c163 c164 c165 c166 c167 c168 c169 c170 c171 c172 c173 c174 c175 c176 c177 c178 c179 c180 c181 c182 c183 c184 c185 c186 c187 c188 c189 c190 c191 c192 c193 c194 c195 c196 c197 c198 c199 c200 c201 c202 c203 c204 c205 c206 c207 c208 c209 c210 c211 c212 c213 c214 c215 c216 c217 c218 c219 c220 c221 c222 c223 c224 c225 c226 c227 c228 c229 c230 c231 c232 c233 c234 : Value) (w : World) (Q0 : Exit → Act → World → Prop)
    (hk : k ≤ 1000) (hA : w.cell? ⟨AB, 1, none⟩ = some (.int .i64 At)) (hM : w.cell? ⟨AB, 2, none⟩ = some (.int .i64 M)) (hus : TrueIn w UB us) (hul : us.length = k) (hne : AB ≠ UB) (hf : f0 = true → 0 ≤ At ∧ 0 ≤ M ∧ At + M ≤ k)
    (hexit : ∀ (u19 u180 u181 u182 u183 u184 u185 u186 u187 u188 u189 u190 u191 u192 u193 u194 u195 : Value) (w' : World), TrueIn w' UB (if f0 = true then setR us tk At.toNat M.toNat else us) → Turn (fun q => q = UB) w w' → Q0 (.exit 10) ⟨List.toArray (c0 :: c1 :: c2 :: c3 :: c4 :: c5 :: c6 :: (.slice (some ⟨UB, 0, none⟩) k k) :: c8 :: (.pointer (some ⟨AB, 0, none⟩)) :: c10 :: c11 :: c12 :: c13 :: c14 :: (.bool tk) :: (.bool f0) :: c17 :: c18 :: u19 :: c20 :: c21 :: c22 :: c23 :: c24 :: c25 :: c26 :: c27 :: c28 :: c29 :: c30 :: c31 :: c32 :: c33 :: c34 :: c35 :: c36 :: c37 :: c38 :: c39 :: c40 :: c41 :: c42 :: c43 :: c44 :: c45 :: c46 :: c47 :: c48 :: c49 :: c50 :: c51 :: c52 :: c53 :: c54 :: c55 :: c56 :: c57 :: c58 :: c59 :: c60 :: c61 :: c62 :: c63 :: c64 :: c65 :: c66 :: c67 :: c68 :: c69 :: c70 :: c71 :: c72 :: c73 :: c74 :: c75 :: c76 :: c77 :: c78 :: c79 :: c80 :: c81 :: c82 :: c83 :: c84 :: c85 :: c86 :: c87 :: c88 :: c89 :: c90 :: c91 :: c92 :: c93 :: c94 :: c95 :: c96 :: c97 :: c98 :: c99 :: c100 :: c101 :: c102 :: c103 :: c104 :: c105 :: c106 :: c107 :: c108 :: c109 :: c110 :: c111 :: c112 :: c113 :: c114 :: c115 :: c116 :: c117 :: c118 :: c119 :: c120 :: c121 :: c122 :: c123 :: c124 :: c125 :: c126 :: c127 :: c128 :: c129 :: c130 :: c131 :: c132 :: c133 :: c134 :: c135 :: c136 :: c137 :: c138 :: c139 :: c140 :: c141 :: c142 :: c143 :: c144 :: c145 :: c146 :: c147 :: c148 :: c149 :: c150 :: c151 :: c152 :: c153 :: c154 :: c155 :: c156 :: c157 :: c158 :: c159 :: c160 :: c161 :: c162 :: c163 :: c164 :: c165 :: c166 :: c167 :: c168 :: c169 :: c170 :: c171 :: c172 :: c173 :: c174 :: c175 :: c176 :: c177 :: c178 :: c179 :: u180 :: u181 :: u182 :: u183 :: u184 :: u185 :: u186 :: u187 :: u188 :: u189 :: u190 :: u191 :: u192 :: u193 :: u194 :: u195 :: c196 :: c197 :: c198 :: c199 :: c200 :: c201 :: c202 :: c203 :: c204 :: c205 :: c206 :: c207 :: c208 :: c209 :: c210 :: c211 :: c212 :: c213 :: c214 :: c215 :: c216 :: c217 :: c218 :: c219 :: c220 :: c221 :: c222 :: c223 :: c224 :: c225 :: c226 :: c227 :: c228 :: c229 :: c230 :: c231 :: c232 :: c233 :: c234 :: []), []⟩ w') :
    Code.wp Try.prog (.loop (playBody 5)) Q0 ⟨List.toArray (c0 :: c1 :: c2 :: c3 :: c4 :: c5 :: c6 :: (.slice (some ⟨UB, 0, none⟩) k k) :: c8 :: (.pointer (some ⟨AB, 0, none⟩)) :: c10 :: c11 :: c12 :: c13 :: c14 :: (.bool tk) :: (.bool f0) :: c17 :: c18 :: (.int .i64 0) :: c20 :: c21 :: c22 :: c23 :: c24 :: c25 :: c26 :: c27 :: c28 :: c29 :: c30 :: c31 :: c32 :: c33 :: c34 :: c35 :: c36 :: c37 :: c38 :: c39 :: c40 :: c41 :: c42 :: c43 :: c44 :: c45 :: c46 :: c47 :: c48 :: c49 :: c50 :: c51 :: c52 :: c53 :: c54 :: c55 :: c56 :: c57 :: c58 :: c59 :: c60 :: c61 :: c62 :: c63 :: c64 :: c65 :: c66 :: c67 :: c68 :: c69 :: c70 :: c71 :: c72 :: c73 :: c74 :: c75 :: c76 :: c77 :: c78 :: c79 :: c80 :: c81 :: c82 :: c83 :: c84 :: c85 :: c86 :: c87 :: c88 :: c89 :: c90 :: c91 :: c92 :: c93 :: c94 :: c95 :: c96 :: c97 :: c98 :: c99 :: c100 :: c101 :: c102 :: c103 :: c104 :: c105 :: c106 :: c107 :: c108 :: c109 :: c110 :: c111 :: c112 :: c113 :: c114 :: c115 :: c116 :: c117 :: c118 :: c119 :: c120 :: c121 :: c122 :: c123 :: c124 :: c125 :: c126 :: c127 :: c128 :: c129 :: c130 :: c131 :: c132 :: c133 :: c134 :: c135 :: c136 :: c137 :: c138 :: c139 :: c140 :: c141 :: c142 :: c143 :: c144 :: c145 :: c146 :: c147 :: c148 :: c149 :: c150 :: c151 :: c152 :: c153 :: c154 :: c155 :: c156 :: c157 :: c158 :: c159 :: c160 :: c161 :: c162 :: c163 :: c164 :: c165 :: c166 :: c167 :: c168 :: c169 :: c170 :: c171 :: c172 :: c173 :: c174 :: c175 :: c176 :: c177 :: c178 :: c179 :: c180 :: c181 :: c182 :: c183 :: c184 :: c185 :: c186 :: c187 :: c188 :: c189 :: c190 :: c191 :: c192 :: c193 :: c194 :: c195 :: c196 :: c197 :: c198 :: c199 :: c200 :: c201 :: c202 :: c203 :: c204 :: c205 :: c206 :: c207 :: c208 :: c209 :: c210 :: c211 :: c212 :: c213 :: c214 :: c215 :: c216 :: c217 :: c218 :: c219 :: c220 :: c221 :: c222 :: c223 :: c224 :: c225 :: c226 :: c227 :: c228 :: c229 :: c230 :: c231 :: c232 :: c233 :: c234 :: []), []⟩ w := by
  have HE := Lib.hid hexit
  have HU := Lib.hid hus
  have HL := Lib.hid hul
  have HF := Lib.hid hf
  have HM := Lib.hid hM
  have HA := Lib.hid hA
  clear hexit hus hul hf hM hA
  conv => arg 2; arg 1; whnf
  cases f0 with
  | true =>
    obtain ⟨a0, m0, m1⟩ := HF.out rfl
    obtain ⟨m, rfl⟩ := Int.eq_ofNat_of_zero_le m0
    obtain ⟨a, rfl⟩ := Int.eq_ofNat_of_zero_le a0
    rw [if_pos rfl, Int.toNat_natCast, Int.toNat_natCast] at HE
    go_loopw [19] (fun jv wr => ∃ (j : Nat), j ≤ m ∧ jv = .int .i64 (j : Int) ∧ TrueIn wr UB (setR us tk a j) ∧ Turn (fun q => q = UB) w wr) (fun jv _ => m - (intOf jv).toNat)
    case atStart => exact ⟨0, by omega, rfl, HU.out, Turn.refl _ w⟩
    case round =>
      obtain ⟨j, hj, rfl, hV, hT⟩ := hrel
      have cM := (hT.cell (p := ⟨AB, 2, none⟩) (World.block_lt_of_cell? w _ HM.out) hne).trans HM.out
      have cA := (hT.cell (p := ⟨AB, 1, none⟩) (World.block_lt_of_cell? w _ HA.out) hne).trans HA.out
      by_cases hlt : j < m
      · have c3 := hV.cell (a + j) (by rw [setR_len, HL.out]; omega)
        have f3 := hV.free (a + j)
        have HV2 := Lib.hid (hV.set (a + j) tk)
        have T2 := Lib.hid (Turn.setCell (S := fun q => q = UB) hT (p := ⟨UB, a + j, none⟩) (fun _ => rfl) (.bool tk))
        generalize (setR us tk a j).getD (a + j) false = old at c3
        have hI : (j : Int) < (m : Int) := by omega
        have hb2 : (0 : Int) ≤ (a : Int) + (j : Int) ∧ (a : Int) + (j : Int) < (k : Int) := by omega
        have htn : ((a : Int) + (j : Int)).toNat = a + j := by omega
        clear hV hT
        go_wp2_with fail
        exact ⟨⟨j + 1, by omega, by go_num, HV2.out, T2.out⟩, by simp [intOf]; omega⟩
      · obtain rfl : j = m := by omega
        have hI : ¬ ((j : Int) < (j : Int)) := by omega
        have HV := Lib.hid hV
        have HT := Lib.hid hT
        clear hV hT
        go_wp2_with fail
        exact HE.out _ _ _ _ _ _ _ _ _ _ _ _ _ _ _ _ _ _ HV.out HT.out
  | false =>
    rw [if_neg (by decide)] at HE
    go_loopw [19] (fun jv wr => jv = .int .i64 0 ∧ w = wr) (fun jv _ => 0)
    case atStart => exact ⟨rfl, rfl⟩
    case round =>
      obtain ⟨rfl, rfl⟩ := hrel
      go_wp2_with fail
      exact HE.out _ _ _ _ _ _ _ _ _ _ _ _ _ _ _ _ _ _ HU.out (Turn.refl _ _)
end Go.Proofs.Ytmhdcpkncaghpaa
