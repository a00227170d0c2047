/- Own: loops of ExtentPlays. No statement is proved here. -/
import Derived.Test.YtmhdcpkncaghpaaPlayB
namespace Go.Proofs.Ytmhdcpkncaghpaa
open Go.RowKit
set_option linter.unusedVariables false
set_option linter.unusedSimpArgs false
/-- The places from one on of which so many are free. -/
def FreeI (us : List Bool) (k : Nat) (M : Int) (p : Nat) : Prop := 1 ≤ M ∧ (p : Int) + M ≤ (k : Int) ∧ allNe us true p M.toNat = true
def LeastF (us : List Bool) (k : Nat) (M : Int) (c : Nat) : Option Nat → Prop
  | some q => c ≤ q ∧ FreeI us k M q ∧ ∀ p, c ≤ p → p < q → ¬ FreeI us k M p
  | none => ∀ p, c ≤ p → ¬ FreeI us k M p
theorem LeastF.start (us : List Bool) (k : Nat) (M : Int) : LeastF us k M k none := fun p hp hf => by
  have := hf.1; have := hf.2.1; omega
theorem LeastF.yes {us : List Bool} {k : Nat} {M : Int} {c : Nat} (h : FreeI us k M c) : LeastF us k M c (some c) := ⟨Nat.le_refl _, h, fun p h1 h2 => by omega⟩
theorem LeastF.no {us : List Bool} {k : Nat} {M : Int} {c : Nat} {o : Option Nat} (h : LeastF us k M (c + 1) o) (hn : ¬ FreeI us k M c) : LeastF us k M c o := by
  cases o with
  | none =>
    intro p hp
    by_cases e : p = c
    · subst e; exact hn
    · exact h p (by omega)
  | some q =>
    refine ⟨by have := h.1; omega, h.2.1, fun p h1 h2 => ?_⟩
    by_cases e : p = c
    · subst e; exact hn
    · exact h.2.2 p (by omega) h2
theorem LeastF.lt {us : List Bool} {k : Nat} {M : Int} {c : Nat} {o : Option Nat} (h : LeastF us k M c o) : -1 ≤ optI o ∧ optI o ≤ (k : Int) := by
  cases o with
  | none => show -1 ≤ (-1 : Int) ∧ (-1 : Int) ≤ (k : Int); omega
  | some q => have := h.2.1.2.1; have := h.2.1.1; show -1 ≤ (q : Int) ∧ (q : Int) ≤ (k : Int); omega

set_option maxHeartbeats 4000000 in
set_option maxRecDepth 1000000 in
theorem plays_seek (UB AB k : Nat) (M : Int) (us : List Bool) (c0 c1 c2 c3 c4 c6 c8 c12 c13 c14 c15 c16 c17 c18 c19 c20 c21 c22 c23 c24 c25 c26 c27 c28 c29 c30 c31 c32 c33 c34 c35 c36 c37 c38 c39 c40 c41 c42 c43 c44 c45 c46 c47 c48 c49 c50 c51 c52 c53 c54 c55 c56 c57 c58 c59 c60 c61 c62 c63 c64 c65 c66 c67 c68 c69 c70 c71 c72 c73 c74 c75 c76 c77 c78 c79 c80 c81 c82 c83 c84 c85 c86 c87 c88 c89 c90 c91 c92 c93 c94 c95 c96 c97 c98 c99 c100 c101 c102 c103 c104 c105 c106 c107 c108 c109 c110 c111 c112 c113 c114 c115 c116 c117 c118 c119 c120 c121 c122 c123 c124 c125 c126 c127 c128 c129 c130 c131 c132 c133 c134 c135 c136 c137 c138 c139 c140 c141 c142 c143 c144 c145 c146 c147 c148 c149 c150 c151 c152 c153 c154 c155 c156 c157 c158 c159 c160 c161 c162 c163 c164 c165 c166 c167 c168 c169 c170 c171 c172 c173 c174 c175 c176 c177 c178 c179 c180 c181 c182 c183 c184 c185 c186 c187 c188 c189 c190 c191 c192 c193 c194 c195 c196 c197 c198 c199 c200 c201 c202 c203 c204 c205 c206 c207 c208 c209 c210 c211 c212 c213 c214 c215 c216 c217 c218 c219 c220 c221 c222 c223 c224 c225 c226 c227 c228 c229 c230 c231 c232 c233 c234 : Value) (w : World) (Q0 : Exit → Act → World → Prop)
    (hk : k ≤ 1000) (hMb : -9223372036854775808 ≤ M ∧ M < 9223372036854775808) (hM : w.cell? ⟨AB, 2, none⟩ = some (.int .i64 M)) (hus : TrueIn w UB us) (hul : us.length = k)
    (hexit : ∀ (o : Option Nat), LeastF us k M 0 o → ∀ (u11 u12 u13 u53 u54 u55 u56 u57 u58 u59 u60 u61 u62 u63 u64 u65 u66 u67 u68 u69 u70 u71 u72 u73 u74 u75 u76 u77 u78 u79 u80 u81 u82 u83 u84 u85 : Value), Q0 (.exit 2) ⟨List.toArray (c0 :: c1 :: c2 :: c3 :: c4 :: (.int .i64 (k : Int)) :: c6 :: (.slice (some ⟨UB, 0, none⟩) k k) :: c8 :: (.pointer (some ⟨AB, 0, none⟩)) :: (.int .i64 (optI o)) :: u11 :: u12 :: u13 :: c14 :: c15 :: c16 :: c17 :: c18 :: c19 :: c20 :: c21 :: c22 :: c23 :: c24 :: c25 :: c26 :: c27 :: c28 :: c29 :: c30 :: c31 :: c32 :: c33 :: c34 :: c35 :: c36 :: c37 :: c38 :: c39 :: c40 :: c41 :: c42 :: c43 :: c44 :: c45 :: c46 :: c47 :: c48 :: c49 :: c50 :: c51 :: c52 :: u53 :: u54 :: u55 :: u56 :: u57 :: u58 :: u59 :: u60 :: u61 :: u62 :: u63 :: u64 :: u65 :: u66 :: u67 :: u68 :: u69 :: u70 :: u71 :: u72 :: u73 :: u74 :: u75 :: u76 :: u77 :: u78 :: u79 :: u80 :: u81 :: u82 :: u83 :: u84 :: u85 :: c86 :: c87 :: c88 :: c89 :: c90 :: c91 :: c92 :: c93 :: c94 :: c95 :: c96 :: c97 :: c98 :: c99 :: c100 :: c101 :: c102 :: c103 :: c104 :: c105 :: c106 :: c107 :: c108 :: c109 :: c110 :: c111 :: c112 :: c113 :: c114 :: c115 :: c116 :: c117 :: c118 :: c119 :: c120 :: c121 :: c122 :: c123 :: c124 :: c125 :: c126 :: c127 :: c128 :: c129 :: c130 :: c131 :: c132 :: c133 :: c134 :: c135 :: c136 :: c137 :: c138 :: c139 :: c140 :: c141 :: c142 :: c143 :: c144 :: c145 :: c146 :: c147 :: c148 :: c149 :: c150 :: c151 :: c152 :: c153 :: c154 :: c155 :: c156 :: c157 :: c158 :: c159 :: c160 :: c161 :: c162 :: c163 :: c164 :: c165 :: c166 :: c167 :: c168 :: c169 :: c170 :: c171 :: c172 :: c173 :: c174 :: c175 :: c176 :: c177 :: c178 :: c179 :: c180 :: c181 :: c182 :: c183 :: c184 :: c185 :: c186 :: c187 :: c188 :: c189 :: c190 :: c191 :: c192 :: c193 :: c194 :: c195 :: c196 :: c197 :: c198 :: c199 :: c200 :: c201 :: c202 :: c203 :: c204 :: c205 :: c206 :: c207 :: c208 :: c209 :: c210 :: c211 :: c212 :: c213 :: c214 :: c215 :: c216 :: c217 :: c218 :: c219 :: c220 :: c221 :: c222 :: c223 :: c224 :: c225 :: c226 :: c227 :: c228 :: c229 :: c230 :: c231 :: c232 :: c233 :: c234 :: []), []⟩ w) :
    Code.wp Try.prog (.loop (playBody 1)) Q0 ⟨List.toArray (c0 :: c1 :: c2 :: c3 :: c4 :: (.int .i64 (k : Int)) :: c6 :: (.slice (some ⟨UB, 0, none⟩) k k) :: c8 :: (.pointer (some ⟨AB, 0, none⟩)) :: (.int .i64 (-1)) :: (.int .i64 ((k : Int) - 1)) :: c12 :: c13 :: c14 :: c15 :: c16 :: c17 :: c18 :: c19 :: c20 :: c21 :: c22 :: c23 :: c24 :: c25 :: c26 :: c27 :: c28 :: c29 :: c30 :: c31 :: c32 :: c33 :: c34 :: c35 :: c36 :: c37 :: c38 :: c39 :: c40 :: c41 :: c42 :: c43 :: c44 :: c45 :: c46 :: c47 :: c48 :: c49 :: c50 :: c51 :: c52 :: c53 :: c54 :: c55 :: c56 :: c57 :: c58 :: c59 :: c60 :: c61 :: c62 :: c63 :: c64 :: c65 :: c66 :: c67 :: c68 :: c69 :: c70 :: c71 :: c72 :: c73 :: c74 :: c75 :: c76 :: c77 :: c78 :: c79 :: c80 :: c81 :: c82 :: c83 :: c84 :: c85 :: c86 :: c87 :: c88 :: c89 :: c90 :: c91 :: c92 :: c93 :: c94 :: c95 :: c96 :: c97 :: c98 :: c99 :: c100 :: c101 :: c102 :: c103 :: c104 :: c105 :: c106 :: c107 :: c108 :: c109 :: c110 :: c111 :: c112 :: c113 :: c114 :: c115 :: c116 :: c117 :: c118 :: c119 :: c120 :: c121 :: c122 :: c123 :: c124 :: c125 :: c126 :: c127 :: c128 :: c129 :: c130 :: c131 :: c132 :: c133 :: c134 :: c135 :: c136 :: c137 :: c138 :: c139 :: c140 :: c141 :: c142 :: c143 :: c144 :: c145 :: c146 :: c147 :: c148 :: c149 :: c150 :: c151 :: c152 :: c153 :: c154 :: c155 :: c156 :: c157 :: c158 :: c159 :: c160 :: c161 :: c162 :: c163 :: c164 :: c165 :: c166 :: c167 :: c168 :: c169 :: c170 :: c171 :: c172 :: c173 :: c174 :: c175 :: c176 :: c177 :: c178 :: c179 :: c180 :: c181 :: c182 :: c183 :: c184 :: c185 :: c186 :: c187 :: c188 :: c189 :: c190 :: c191 :: c192 :: c193 :: c194 :: c195 :: c196 :: c197 :: c198 :: c199 :: c200 :: c201 :: c202 :: c203 :: c204 :: c205 :: c206 :: c207 :: c208 :: c209 :: c210 :: c211 :: c212 :: c213 :: c214 :: c215 :: c216 :: c217 :: c218 :: c219 :: c220 :: c221 :: c222 :: c223 :: c224 :: c225 :: c226 :: c227 :: c228 :: c229 :: c230 :: c231 :: c232 :: c233 :: c234 :: []), []⟩ w := by
  have HE := Lib.hid hexit
  have HU := Lib.hid hus
  have HL := Lib.hid hul
  clear hexit hus hul
  conv => arg 2; arg 1; whnf
  go_loopw [10, 11] (fun wv av wi => ∃ (c : Nat) (o : Option Nat), c ≤ k ∧ av = .int .i64 ((c : Int) - 1) ∧ wv = .int .i64 (optI o) ∧ LeastF us k M c o ∧ w = wi) (fun _ av _ => (intOf av + 1).toNat)
  case atStart => exact ⟨k, none, Nat.le_refl _, rfl, rfl, LeastF.start us k M, rfl⟩
  case round =>
    obtain ⟨c, o, hc, rfl, rfl, ho, rfl⟩ := hrel
    have HO := Lib.hid ho
    have hlt := ho.lt
    obtain ⟨f, hf⟩ : ∃ f, optI o = f := ⟨_, rfl⟩
    rw [hf] at hlt ⊢
    have HFO := Lib.hid hf
    clear ho hf
    cases c with
    | zero =>
      have hneg : ¬ ((0 : Int) ≤ ((0 : Nat) : Int) - 1) := by omega
      go_wp2_with fail
      obtain rfl := HFO.out
      exact HE.out o HO.out _ _ _ _ _ _ _ _ _ _ _ _ _ _ _ _ _ _ _ _ _ _ _ _ _ _ _ _ _ _ _ _ _ _ _ _
    | succ a =>
      have e1 : ((a + 1 : Nat) : Int) - 1 = (a : Int) := by omega
      rw [e1]
      clear e1
      have hge : (0 : Int) ≤ (a : Int) := by omega
      by_cases h1 : 1 ≤ M
      · by_cases h2 : M ≤ (k : Int) - (a : Int)
        · have hff : 0 ≤ M ∧ (a : Int) + M ≤ (k : Int) := by omega
          have HFF := Lib.hid hff
          clear hff
          go_wp2_with fail
          refine plays_free UB AB k a M true us _ _ _ _ _ _ _ _ _ _ _ _ _ _ _ _ _ _ _ _ _ _ _ _ _ _ _ _ _ _ _ _ _ _ _ _ _ _ _ _ _ _ _ _ _ _ _ _ _ _ _ _ _ _ _ _ _ _ _ _ _ _ _ _ _ _ _ _ _ _ _ _ _ _ _ _ _ _ _ _ _ _ _ _ _ _ _ _ _ _ _ _ _ _ _ _ _ _ _ _ _ _ _ _ _ _ _ _ _ _ _ _ _ _ _ _ _ _ _ _ _ _ _ _ _ _ _ _ _ _ _ _ _ _ _ _ _ _ _ _ _ _ _ _ _ _ _ _ _ _ _ _ _ _ _ _ _ _ _ _ _ _ _ _ _ _ _ _ _ _ _ _ _ _ _ _ _ _ _ _ _ _ _ _ _ _ _ _ _ _ _ _ _ _ _ _ _ _ _ _ _ _ _ _ _ _ _ _ _ _ _ _ _ _ _ _ _ _ _ _ _ _ _ _ _ _ _ _ _ _ _ _ hk hM HU.out HL.out (fun _ => HFF.out) ?_
          intro _ _ _ _ _ _ _ _ _ _ _ _ _ _ _ _ _
          rw [Bool.true_and]
          cases hb : allNe us true a M.toNat with
          | true =>
            have HB := Lib.hid (show LeastF us k M a (some a) from LeastF.yes ⟨h1, by omega, hb⟩)
            clear hb
            go_wp2_with fail
            exact ⟨⟨a, some a, by omega, rfl, rfl, HB.out, trivial⟩, by simp [intOf] <;> omega⟩
          | false =>
            have HB := Lib.hid (show LeastF us k M a o from LeastF.no HO.out (fun h => by have h2 := h.2.2; rw [hb] at h2; cases h2))
            clear hb
            go_wp2_with fail
            exact ⟨⟨a, o, by omega, rfl, by rw [HFO.out], HB.out, trivial⟩, by simp [intOf] <;> omega⟩
        · have HB := Lib.hid (show LeastF us k M a o from LeastF.no HO.out (fun h => by have := h.2.1; omega))
          go_wp2_with fail
          refine plays_free UB AB k a M false us _ _ _ _ _ _ _ _ _ _ _ _ _ _ _ _ _ _ _ _ _ _ _ _ _ _ _ _ _ _ _ _ _ _ _ _ _ _ _ _ _ _ _ _ _ _ _ _ _ _ _ _ _ _ _ _ _ _ _ _ _ _ _ _ _ _ _ _ _ _ _ _ _ _ _ _ _ _ _ _ _ _ _ _ _ _ _ _ _ _ _ _ _ _ _ _ _ _ _ _ _ _ _ _ _ _ _ _ _ _ _ _ _ _ _ _ _ _ _ _ _ _ _ _ _ _ _ _ _ _ _ _ _ _ _ _ _ _ _ _ _ _ _ _ _ _ _ _ _ _ _ _ _ _ _ _ _ _ _ _ _ _ _ _ _ _ _ _ _ _ _ _ _ _ _ _ _ _ _ _ _ _ _ _ _ _ _ _ _ _ _ _ _ _ _ _ _ _ _ _ _ _ _ _ _ _ _ _ _ _ _ _ _ _ _ _ _ _ _ _ _ _ _ _ _ _ _ _ _ _ _ _ hk hM HU.out HL.out (fun h => by cases h) ?_
          intro _ _ _ _ _ _ _ _ _ _ _ _ _ _ _ _ _
          rw [Bool.false_and]
          go_wp2_with fail
          exact ⟨⟨a, o, by omega, rfl, by rw [HFO.out], HB.out, trivial⟩, by simp [intOf] <;> omega⟩
      · have HB := Lib.hid (show LeastF us k M a o from LeastF.no HO.out (fun h => by have := h.1; omega))
        go_wp2_with fail
        refine plays_free UB AB k a M false us _ _ _ _ _ _ _ _ _ _ _ _ _ _ _ _ _ _ _ _ _ _ _ _ _ _ _ _ _ _ _ _ _ _ _ _ _ _ _ _ _ _ _ _ _ _ _ _ _ _ _ _ _ _ _ _ _ _ _ _ _ _ _ _ _ _ _ _ _ _ _ _ _ _ _ _ _ _ _ _ _ _ _ _ _ _ _ _ _ _ _ _ _ _ _ _ _ _ _ _ _ _ _ _ _ _ _ _ _ _ _ _ _ _ _ _ _ _ _ _ _ _ _ _ _ _ _ _ _ _ _ _ _ _ _ _ _ _ _ _ _ _ _ _ _ _ _ _ _ _ _ _ _ _ _ _ _ _ _ _ _ _ _ _ _ _ _ _ _ _ _ _ _ _ _ _ _ _ _ _ _ _ _ _ _ _ _ _ _ _ _ _ _ _ _ _ _ _ _ _ _ _ _ _ _ _ _ _ _ _ _ _ _ _ _ _ _ _ _ _ _ _ _ _ _ _ _ _ _ _ _ _ hk hM HU.out HL.out (fun h => by cases h) ?_
        intro _ _ _ _ _ _ _ _ _ _ _ _ _ _ _ _ _
        rw [Bool.false_and]
        go_wp2_with fail
        exact ⟨⟨a, o, by omega, rfl, by rw [HFO.out], HB.out, trivial⟩, by simp [intOf] <;> omega⟩
end Go.Proofs.Ytmhdcpkncaghpaa
