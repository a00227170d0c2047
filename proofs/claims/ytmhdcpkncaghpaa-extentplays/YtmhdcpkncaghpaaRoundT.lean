/- Own: loops of ExtentPlays. No statement is proved here. -/
import Derived.Test.YtmhdcpkncaghpaaState
namespace Go.Proofs.Ytmhdcpkncaghpaa
open Go.RowKit
set_option linter.unusedVariables false
set_option linter.unusedSimpArgs false
set_option maxHeartbeats 4000000 in
set_option maxRecDepth 1000000 in
theorem round_take (w1 : World) (g o n cp i D k UB : Nat) (K At M : Int) (us : List Bool) (F : Nat → Prop) (c0 c2 c3 c4 c9 c10 c11 c12 c13 c14 c15 c16 c17 c18 c19 c20 c21 c22 c23 c24 c25 c26 c27 c28 c29 c30 c31 c32 c33 c34 c35 c36 c37 c38 c39 c40 c41 c42 c43 c44 c45 c46 c47 c48 c49 c50 c51 c52 c53 c54 c55 c56 c57 c58 c59 c60 c61 c62 c63 c64 c65 c66 c67 c68 c69 c70 c71 c72 c73 c74 c75 c76 c77 c78 c79 c80 c81 c82 c83 c84 c85 c86 c87 c88 c89 c90 c91 c92 c93 c94 c95 c96 c97 c98 c99 c100 c101 c102 c103 c104 c105 c106 c107 c108 c109 c110 c111 c112 c113 c114 c115 c116 c117 c118 c119 c120 c121 c122 c123 c124 c125 c126 c127 c128 c129 c130 c131 c132 c133 c134 c135 c136 c137 c138 c139 c140 c141 c142 c143 c144 c145 c146 c147 c148 c149 c150 c151 c152 c153 c154 c155 c156 c157 c158 c159 c160 c161 c162 c163 c164 c165 c166 c167 c168 c169 c170 c171 c172 c173 c174 c175 c176 c177 c178 c179 c180 c181 c182 c183 c184 c185 c186 c187 c188 c189 c190 c191 c192 c193 c194 c195 c196 c197 c198 c199 c200 c201 c202 c203 c204 c205 c206 c207 c208 c209 c210 c211 c212 c213 c214 c215 c216 c217 c218 c219 c220 c221 c222 c223 c224 c225 c226 c227 c228 c229 c230 c231 c232 c233 c234 : Value) (w : World) (Q0 : Exit → Act → World → Prop)
    (hQ : ∀ e d v a w, Q0 (.panic e) (Act.put a d v) w → Q0 (.panic e) a w)
    (hk : k ≤ 1000) (hn : n ≤ 1000) (hi : i < n) (hact : ActAt w g o i K At M) (hK3 : K.toNat % 4 < 2) (hst : PSt w1 w D k UB us (fun p => us.getD p false) F)
    (hexit : ∀ (u4 u9 u10 u11 u12 u13 u14 u15 u16 u17 u18 u19 u20 u21 u37 u38 u39 u40 u41 u42 u43 u44 u45 u46 u47 u48 u49 u50 u51 u52 u53 u54 u55 u56 u57 u58 u59 u60 u61 u62 u63 u64 u65 u66 u67 u68 u69 u70 u71 u72 u73 u74 u75 u76 u77 u78 u79 u80 u81 u82 u83 u84 u85 u86 u87 u88 u89 u90 u91 u92 u93 u94 u95 u96 u97 u98 u99 u100 u101 u102 u103 u104 u105 u106 u107 u108 u109 u110 u111 u112 u113 u114 u115 u116 u117 u118 u119 u120 u121 u122 u123 u124 u125 u126 u127 u128 u129 u130 u131 u132 u133 u134 u135 u136 u137 u138 u139 u140 u141 u142 u143 u144 u145 u146 u147 u148 u149 u150 u151 u152 u153 u154 u155 u156 u157 u158 u159 u160 u161 u162 u163 u164 u165 u166 u167 u168 u169 u170 u171 u172 u173 u174 u175 u176 u177 u178 u179 u180 u181 u182 u183 u184 u185 u186 u187 u188 u189 u190 u191 u192 u193 u194 u195 u196 u197 u198 u199 u200 u201 u202 u203 u204 u205 u206 u207 u208 u209 u210 u211 u212 u213 u214 u215 u216 u217 u218 u219 u220 u221 u222 u223 u224 u225 u226 u227 u228 u229 u230 u231 u232 u233 u234 : Value) (us' : List Bool) (F' : Nat → Prop) (w' : World), PSt w1 w' D k UB us' (fun p => us'.getD p false) F' → Q0 .normal ⟨List.toArray (c0 :: (.slice (some ⟨g, o, none⟩) n cp) :: c2 :: c3 :: u4 :: (.int .i64 (k : Int)) :: (.pointer (some ⟨D, 0, none⟩)) :: (.slice (some ⟨UB, 0, none⟩) k k) :: (.int .i64 ((i : Int) + 1)) :: u9 :: u10 :: u11 :: u12 :: u13 :: u14 :: u15 :: u16 :: u17 :: u18 :: u19 :: u20 :: u21 :: c22 :: c23 :: c24 :: c25 :: c26 :: c27 :: c28 :: c29 :: c30 :: c31 :: c32 :: c33 :: c34 :: c35 :: c36 :: u37 :: u38 :: u39 :: u40 :: u41 :: u42 :: u43 :: u44 :: u45 :: u46 :: u47 :: u48 :: u49 :: u50 :: u51 :: u52 :: u53 :: u54 :: u55 :: u56 :: u57 :: u58 :: u59 :: u60 :: u61 :: u62 :: u63 :: u64 :: u65 :: u66 :: u67 :: u68 :: u69 :: u70 :: u71 :: u72 :: u73 :: u74 :: u75 :: u76 :: u77 :: u78 :: u79 :: u80 :: u81 :: u82 :: u83 :: u84 :: u85 :: u86 :: u87 :: u88 :: u89 :: u90 :: u91 :: u92 :: u93 :: u94 :: u95 :: u96 :: u97 :: u98 :: u99 :: u100 :: u101 :: u102 :: u103 :: u104 :: u105 :: u106 :: u107 :: u108 :: u109 :: u110 :: u111 :: u112 :: u113 :: u114 :: u115 :: u116 :: u117 :: u118 :: u119 :: u120 :: u121 :: u122 :: u123 :: u124 :: u125 :: u126 :: u127 :: u128 :: u129 :: u130 :: u131 :: u132 :: u133 :: u134 :: u135 :: u136 :: u137 :: u138 :: u139 :: u140 :: u141 :: u142 :: u143 :: u144 :: u145 :: u146 :: u147 :: u148 :: u149 :: u150 :: u151 :: u152 :: u153 :: u154 :: u155 :: u156 :: u157 :: u158 :: u159 :: u160 :: u161 :: u162 :: u163 :: u164 :: u165 :: u166 :: u167 :: u168 :: u169 :: u170 :: u171 :: u172 :: u173 :: u174 :: u175 :: u176 :: u177 :: u178 :: u179 :: u180 :: u181 :: u182 :: u183 :: u184 :: u185 :: u186 :: u187 :: u188 :: u189 :: u190 :: u191 :: u192 :: u193 :: u194 :: u195 :: u196 :: u197 :: u198 :: u199 :: u200 :: u201 :: u202 :: u203 :: u204 :: u205 :: u206 :: u207 :: u208 :: u209 :: u210 :: u211 :: u212 :: u213 :: u214 :: u215 :: u216 :: u217 :: u218 :: u219 :: u220 :: u221 :: u222 :: u223 :: u224 :: u225 :: u226 :: u227 :: u228 :: u229 :: u230 :: u231 :: u232 :: u233 :: u234 :: []), []⟩ w') :
    Code.wp Try.prog (playBody 0) Q0 ⟨List.toArray (c0 :: (.slice (some ⟨g, o, none⟩) n cp) :: c2 :: c3 :: c4 :: (.int .i64 (k : Int)) :: (.pointer (some ⟨D, 0, none⟩)) :: (.slice (some ⟨UB, 0, none⟩) k k) :: (.int .i64 (i : Int)) :: c9 :: c10 :: c11 :: c12 :: c13 :: c14 :: c15 :: c16 :: c17 :: c18 :: c19 :: c20 :: c21 :: c22 :: c23 :: c24 :: c25 :: c26 :: c27 :: c28 :: c29 :: c30 :: c31 :: c32 :: c33 :: c34 :: c35 :: c36 :: c37 :: c38 :: c39 :: c40 :: c41 :: c42 :: c43 :: c44 :: c45 :: c46 :: c47 :: c48 :: c49 :: c50 :: c51 :: c52 :: c53 :: c54 :: c55 :: c56 :: c57 :: c58 :: c59 :: c60 :: c61 :: c62 :: c63 :: c64 :: c65 :: c66 :: c67 :: c68 :: c69 :: c70 :: c71 :: c72 :: c73 :: c74 :: c75 :: c76 :: c77 :: c78 :: c79 :: c80 :: c81 :: c82 :: c83 :: c84 :: c85 :: c86 :: c87 :: c88 :: c89 :: c90 :: c91 :: c92 :: c93 :: c94 :: c95 :: c96 :: c97 :: c98 :: c99 :: c100 :: c101 :: c102 :: c103 :: c104 :: c105 :: c106 :: c107 :: c108 :: c109 :: c110 :: c111 :: c112 :: c113 :: c114 :: c115 :: c116 :: c117 :: c118 :: c119 :: c120 :: c121 :: c122 :: c123 :: c124 :: c125 :: c126 :: c127 :: c128 :: c129 :: c130 :: c131 :: c132 :: c133 :: c134 :: c135 :: c136 :: c137 :: c138 :: c139 :: c140 :: c141 :: c142 :: c143 :: c144 :: c145 :: c146 :: c147 :: c148 :: c149 :: c150 :: c151 :: c152 :: c153 :: c154 :: c155 :: c156 :: c157 :: c158 :: c159 :: c160 :: c161 :: c162 :: c163 :: c164 :: c165 :: c166 :: c167 :: c168 :: c169 :: c170 :: c171 :: c172 :: c173 :: c174 :: c175 :: c176 :: c177 :: c178 :: c179 :: c180 :: c181 :: c182 :: c183 :: c184 :: c185 :: c186 :: c187 :: c188 :: c189 :: c190 :: c191 :: c192 :: c193 :: c194 :: c195 :: c196 :: c197 :: c198 :: c199 :: c200 :: c201 :: c202 :: c203 :: c204 :: c205 :: c206 :: c207 :: c208 :: c209 :: c210 :: c211 :: c212 :: c213 :: c214 :: c215 :: c216 :: c217 :: c218 :: c219 :: c220 :: c221 :: c222 :: c223 :: c224 :: c225 :: c226 :: c227 :: c228 :: c229 :: c230 :: c231 :: c232 :: c233 :: c234 :: []), []⟩ w := by
  have HE := Lib.hid hexit
  have HQ := Lib.hid hQ
  have hKb := hact.kOk
  have hAb := hact.atOk
  have hMb := hact.mOk
  have a0 := hact.kind
  have a1 := hact.place
  have a2 := hact.num
  obtain ⟨w3, hw3⟩ : ∃ w3, w.alloc (.cells #[.int .u8 K, .int .i64 At, .int .i64 M] 28) = w3 := ⟨_, rfl⟩
  obtain ⟨AB, hAB⟩ : ∃ AB, w.heap.size = AB := ⟨_, rfl⟩
  have T3 : Turn (fun _ => False) w w3 := by rw [← hw3]; exact (Turn.refl _ w).alloc _
  have hbx : w3.heap[AB]? = some (.cells #[.int .u8 K, .int .i64 At, .int .i64 M] 28 (0, 0)) := by rw [← hw3, ← hAB]; exact heap_alloc_new w _
  have k0 : w3.cell? ⟨AB, 0, none⟩ = some (.int .u8 K) := cell_of_row w3 AB 0 _ 28 (0, 0) hbx
  have k1 : w3.cell? ⟨AB, 1, none⟩ = some (.int .i64 At) := cell_of_row w3 AB 1 _ 28 (0, 0) hbx
  have k2 : w3.cell? ⟨AB, 2, none⟩ = some (.int .i64 M) := cell_of_row w3 AB 2 _ 28 (0, 0) hbx
  have HS3 := Lib.hid (hst.calm T3)
  have hnAB : AB ≠ UB := by have := hst.row.lt; omega
  have HAF := Lib.hid (show ¬ F AB from fun h => by have := hst.map.lt AB h; omega)
  have HBX := Lib.hid hbx
  have hiI : (i : Int) < (n : Int) := by omega
  obtain ⟨kk, rfl⟩ := Int.eq_ofNat_of_zero_le hKb.1
  clear hexit hQ hact hst T3 hbx
  obtain ⟨q4, hq4⟩ : ∃ q4, kk % 4 = q4 := ⟨_, rfl⟩
  have hK4 : q4 < 2 := by simp at hK3; omega
  have r1 : (kk : Int) % 4 = (q4 : Int) := by omega
  have r2 : Int.tmod (kk : Int) 4 = (q4 : Int) := by rw [Int.tmod_eq_emod_of_nonneg (by omega)]; exact r1
  have r3 : ((q4 : Int) == 3) = false := by rw [beq_eq_false_iff_ne]; omega
  have r4 : ¬ ((q4 : Int) = 3) := by omega
  have r5 : (q4 : Int) < 2 := by omega
  clear hK3 hq4
  conv => arg 2; whnf
  by_cases h1 : 0 ≤ At
  · by_cases h2 : 0 ≤ M
    · by_cases h3 : At ≤ (k : Int)
      · by_cases h4 : M ≤ (k : Int) - At
        · have hff : 0 ≤ At ∧ 0 ≤ M ∧ At + M ≤ (k : Int) := by omega
          cases hb : allNe us true At.toNat M.toNat with
          | false =>
            have HNO := Lib.hid (take_no w3 F D k _ HS3.out.map (by omega) At M hAb hMb (fun hh => by
              have : allNe us true At.toNat M.toNat = true := allNe_iff.2 (fun p p1 p2 => hh.2.2.2.2 p (by omega) (by omega))
              rw [hb] at this; cases this))
            have HB := Lib.hid hb
            have HFF := Lib.hid hff
            clear hb hff
            go_wp2_with fail
            refine plays_can UB AB k At M true true us _ _ _ _ _ _ _ _ _ _ _ _ _ _ _ _ _ _ _ _ _ _ _ _ _ _ _ _ _ _ _ _ _ _ _ _ _ _ _ _ _ _ _ _ _ _ _ _ _ _ _ _ _ _ _ _ _ _ _ _ _ _ _ _ _ _ _ _ _ _ _ _ _ _ _ _ _ _ _ _ _ _ _ _ _ _ _ _ _ _ _ _ _ _ _ _ _ _ _ _ _ _ _ _ _ _ _ _ _ _ _ _ _ _ _ _ _ _ _ _ _ _ _ _ _ _ _ _ _ _ _ _ _ _ _ _ _ _ _ _ _ _ _ _ _ _ _ _ _ _ _ _ _ _ _ _ _ _ _ _ _ _ _ _ _ _ _ _ _ _ _ _ _ _ _ _ _ _ _ _ _ _ _ _ _ _ _ _ _ _ _ _ _ _ _ _ _ _ _ _ _ _ _ _ _ _ _ _ _ _ _ _ _ _ _ _ _ _ _ _ _ _ _ _ _ _ _ _ _ _ _ _ hk k1 k2 HS3.out.row HS3.out.len (fun _ => HFF.out) ?_
            intro _ _ _ _ _ _ _ _ _ _ _ _ _ _ _ _ _ _ _
            rw [Bool.true_and, HB.out]
            go_wp2_with fail
            refine HNO.out.mono ?_
            rintro e w4 ⟨rfl, T4⟩
            have HS4 := Lib.hid (HS3.out.calm T4)
            have k14 : w4.cell? ⟨AB, 1, none⟩ = some (.int .i64 At) := (T4.cell (p := ⟨AB, 1, none⟩) (World.block_lt_of_cell? w3 _ k1) id).trans k1
            have k24 : w4.cell? ⟨AB, 2, none⟩ = some (.int .i64 M) := (T4.cell (p := ⟨AB, 2, none⟩) (World.block_lt_of_cell? w3 _ k2) id).trans k2
            go_wp2_with fail
            refine plays_set UB AB k At M false true us _ _ _ _ _ _ _ _ _ _ _ _ _ _ _ _ _ _ _ _ _ _ _ _ _ _ _ _ _ _ _ _ _ _ _ _ _ _ _ _ _ _ _ _ _ _ _ _ _ _ _ _ _ _ _ _ _ _ _ _ _ _ _ _ _ _ _ _ _ _ _ _ _ _ _ _ _ _ _ _ _ _ _ _ _ _ _ _ _ _ _ _ _ _ _ _ _ _ _ _ _ _ _ _ _ _ _ _ _ _ _ _ _ _ _ _ _ _ _ _ _ _ _ _ _ _ _ _ _ _ _ _ _ _ _ _ _ _ _ _ _ _ _ _ _ _ _ _ _ _ _ _ _ _ _ _ _ _ _ _ _ _ _ _ _ _ _ _ _ _ _ _ _ _ _ _ _ _ _ _ _ _ _ _ _ _ _ _ _ _ _ _ _ _ _ _ _ _ _ _ _ _ _ _ _ _ _ _ _ _ _ _ _ _ _ _ _ _ _ _ _ _ _ _ _ _ _ _ _ _ _ _ hk k14 k24 HS4.out.row HS4.out.len hnAB (fun h => by cases h) ?_
            intro _ _ _ _ _ _ _ _ _ _ _ _ _ _ _ _ _ wp hr hT
            rw [if_neg (by decide)] at hr
            have HPF := Lib.hid (HS4.out.put hr hT rfl)
            clear hr hT
            go_wp2_with fail
            refine plays_look UB D k (us) _ _ _ _ _ _ _ _ _ _ _ _ _ _ _ _ _ _ _ _ _ _ _ _ _ _ _ _ _ _ _ _ _ _ _ _ _ _ _ _ _ _ _ _ _ _ _ _ _ _ _ _ _ _ _ _ _ _ _ _ _ _ _ _ _ _ _ _ _ _ _ _ _ _ _ _ _ _ _ _ _ _ _ _ _ _ _ _ _ _ _ _ _ _ _ _ _ _ _ _ _ _ _ _ _ _ _ _ _ _ _ _ _ _ _ _ _ _ _ _ _ _ _ _ _ _ _ _ _ _ _ _ _ _ _ _ _ _ _ _ _ _ _ _ _ _ _ _ _ _ _ _ _ _ _ _ _ _ _ _ _ _ _ _ _ _ _ _ _ _ _ _ _ _ _ _ _ _ _ _ _ _ _ _ _ _ _ _ _ _ _ _ _ _ _ _ _ _ _ _ _ _ _ _ _ _ _ _ _ _ _ _ _ _ _ _ _ _ _ _ _ _ _ _ _ _ _ _ _ _ _ _ (fun e d v a w => HQ.out e d v a w) hk HPF.out.row HPF.out.len (fun wr T j hj => by
              have := used_h wr _ D k _ (HPF.out.map.none T) (by omega) (j : Int) (by omega)
              rw [decide_eq_true (by omega), Bool.true_and, Int.toNat_natCast] at this
              exact this) ?_
            intro _ _ _ _ _ _ _ _ _ _ _ _ _ _ _ _ _ _ _ _ _ _ w5 T5
            have HP5 := Lib.hid (HPF.out.calm T5)
            have HLF := Lib.hid (left_h w5 _ D k _ HP5.out.map (by omega))
            obtain ⟨lf, hlf⟩ : ∃ lf, cnt (fun p => !(us).getD p false) k = lf := ⟨_, rfl⟩
            rw [hlf] at HLF ⊢
            clear hlf T5
            go_wp2_with fail
            refine HLF.out.mono ?_
            rintro e w6 ⟨rfl, T6⟩
            have HP6 := Lib.hid (HP5.out.calm T6)
            go_wp2_with fail
            refine (len_h w6 _ D k _ HP6.out.map).mono ?_
            rintro e w7 ⟨rfl, T7⟩
            have HP7 := Lib.hid (HP6.out.calm T7)
            go_wp2_with fail
            have hu7 := used_h w7 _ D k _ HP7.out.map (by omega) (k : Int) (by omega)
            rw [decide_eq_true (by omega), Bool.true_and, Int.toNat_natCast, HP7.out.map.hi (Nat.le_refl _)] at hu7
            refine hu7.mono ?_
            rintro e w8 ⟨rfl, T8⟩
            have HP8 := Lib.hid (HP7.out.calm T8)
            clear hu7
            go_wp2_with fail
            have hu8 := used_h w8 _ D k _ HP8.out.map (by omega) (-1) (by omega)
            rw [decide_eq_false (by omega), Bool.false_and] at hu8
            refine hu8.mono ?_
            rintro e w9 ⟨rfl, T9⟩
            have HP9 := Lib.hid (HP8.out.calm T9)
            clear hu8
            go_wp2_with fail
            exact HE.out _ _ _ _ _ _ _ _ _ _ _ _ _ _ _ _ _ _ _ _ _ _ _ _ _ _ _ _ _ _ _ _ _ _ _ _ _ _ _ _ _ _ _ _ _ _ _ _ _ _ _ _ _ _ _ _ _ _ _ _ _ _ _ _ _ _ _ _ _ _ _ _ _ _ _ _ _ _ _ _ _ _ _ _ _ _ _ _ _ _ _ _ _ _ _ _ _ _ _ _ _ _ _ _ _ _ _ _ _ _ _ _ _ _ _ _ _ _ _ _ _ _ _ _ _ _ _ _ _ _ _ _ _ _ _ _ _ _ _ _ _ _ _ _ _ _ _ _ _ _ _ _ _ _ _ _ _ _ _ _ _ _ _ _ _ _ _ _ _ _ _ _ _ _ _ _ _ _ _ _ _ _ _ _ _ _ _ _ _ _ _ _ _ _ _ _ _ _ _ _ _ _ _ _ _ _ _ _ _ _ _ _ _ _ w9 HP9.out
          | true =>
            obtain ⟨a, rfl⟩ := Int.eq_ofNat_of_zero_le h1
            obtain ⟨m, rfl⟩ := Int.eq_ofNat_of_zero_le h2
            have HNE := Lib.hid (allNe_iff.1 hb)
            have HB := Lib.hid hb
            have HFF := Lib.hid hff
            have ham : a + m ≤ k := by omega
            clear hb hff
            go_wp2_with fail
            refine plays_can UB AB k (a : Int) (m : Int) true true us _ _ _ _ _ _ _ _ _ _ _ _ _ _ _ _ _ _ _ _ _ _ _ _ _ _ _ _ _ _ _ _ _ _ _ _ _ _ _ _ _ _ _ _ _ _ _ _ _ _ _ _ _ _ _ _ _ _ _ _ _ _ _ _ _ _ _ _ _ _ _ _ _ _ _ _ _ _ _ _ _ _ _ _ _ _ _ _ _ _ _ _ _ _ _ _ _ _ _ _ _ _ _ _ _ _ _ _ _ _ _ _ _ _ _ _ _ _ _ _ _ _ _ _ _ _ _ _ _ _ _ _ _ _ _ _ _ _ _ _ _ _ _ _ _ _ _ _ _ _ _ _ _ _ _ _ _ _ _ _ _ _ _ _ _ _ _ _ _ _ _ _ _ _ _ _ _ _ _ _ _ _ _ _ _ _ _ _ _ _ _ _ _ _ _ _ _ _ _ _ _ _ _ _ _ _ _ _ _ _ _ _ _ _ _ _ _ _ _ _ _ _ _ _ _ _ _ _ _ _ _ _ hk k1 k2 HS3.out.row HS3.out.len (fun _ => HFF.out) ?_
            intro _ _ _ _ _ _ _ _ _ _ _ _ _ _ _ _ _ _ _
            rw [Bool.true_and, HB.out]
            go_wp2_with fail
            refine (take_yes w3 F D k _ HS3.out.map (by omega) a m ham (fun p p1 p2 => by simpa using HNE.out p (by omega) (by omega))).mono ?_
            rintro e w5 ⟨rfl, F5, g5, h5⟩
            have HS5 := Lib.hid (HS3.out.grow g5 h5)
            have k15 : w5.cell? ⟨AB, 1, none⟩ = some (.int .i64 (a : Int)) := (g5.1.cell (p := ⟨AB, 1, none⟩) (World.block_lt_of_cell? w3 _ k1) HAF.out).trans k1
            have k25 : w5.cell? ⟨AB, 2, none⟩ = some (.int .i64 (m : Int)) := (g5.1.cell (p := ⟨AB, 2, none⟩) (World.block_lt_of_cell? w3 _ k2) HAF.out).trans k2
            clear g5 h5
            go_wp2_with fail
            refine plays_set UB AB k (a : Int) (m : Int) true true us _ _ _ _ _ _ _ _ _ _ _ _ _ _ _ _ _ _ _ _ _ _ _ _ _ _ _ _ _ _ _ _ _ _ _ _ _ _ _ _ _ _ _ _ _ _ _ _ _ _ _ _ _ _ _ _ _ _ _ _ _ _ _ _ _ _ _ _ _ _ _ _ _ _ _ _ _ _ _ _ _ _ _ _ _ _ _ _ _ _ _ _ _ _ _ _ _ _ _ _ _ _ _ _ _ _ _ _ _ _ _ _ _ _ _ _ _ _ _ _ _ _ _ _ _ _ _ _ _ _ _ _ _ _ _ _ _ _ _ _ _ _ _ _ _ _ _ _ _ _ _ _ _ _ _ _ _ _ _ _ _ _ _ _ _ _ _ _ _ _ _ _ _ _ _ _ _ _ _ _ _ _ _ _ _ _ _ _ _ _ _ _ _ _ _ _ _ _ _ _ _ _ _ _ _ _ _ _ _ _ _ _ _ _ _ _ _ _ _ _ _ _ _ _ _ _ _ _ _ _ _ _ hk k15 k25 HS5.out.row HS5.out.len hnAB (fun _ => HFF.out) ?_
            intro _ _ _ _ _ _ _ _ _ _ _ _ _ _ _ _ _ wp hr hT
            rw [if_pos rfl, Int.toNat_natCast, Int.toNat_natCast] at hr
            have HPF := Lib.hid ((HS5.out.put hr hT (setR_len _ _ _ _)).ext (setR_true (by rw [HS5.out.len]; exact ham)))
            clear hr hT
            go_wp2_with fail
            refine plays_look UB D k (setR us true a m) _ _ _ _ _ _ _ _ _ _ _ _ _ _ _ _ _ _ _ _ _ _ _ _ _ _ _ _ _ _ _ _ _ _ _ _ _ _ _ _ _ _ _ _ _ _ _ _ _ _ _ _ _ _ _ _ _ _ _ _ _ _ _ _ _ _ _ _ _ _ _ _ _ _ _ _ _ _ _ _ _ _ _ _ _ _ _ _ _ _ _ _ _ _ _ _ _ _ _ _ _ _ _ _ _ _ _ _ _ _ _ _ _ _ _ _ _ _ _ _ _ _ _ _ _ _ _ _ _ _ _ _ _ _ _ _ _ _ _ _ _ _ _ _ _ _ _ _ _ _ _ _ _ _ _ _ _ _ _ _ _ _ _ _ _ _ _ _ _ _ _ _ _ _ _ _ _ _ _ _ _ _ _ _ _ _ _ _ _ _ _ _ _ _ _ _ _ _ _ _ _ _ _ _ _ _ _ _ _ _ _ _ _ _ _ _ _ _ _ _ _ _ _ _ _ _ _ _ _ _ _ _ (fun e d v a w => HQ.out e d v a w) hk HPF.out.row HPF.out.len (fun wr T j hj => by
              have := used_h wr _ D k _ (HPF.out.map.none T) (by omega) (j : Int) (by omega)
              rw [decide_eq_true (by omega), Bool.true_and, Int.toNat_natCast] at this
              exact this) ?_
            intro _ _ _ _ _ _ _ _ _ _ _ _ _ _ _ _ _ _ _ _ _ _ w5 T5
            have HP5 := Lib.hid (HPF.out.calm T5)
            have HLF := Lib.hid (left_h w5 _ D k _ HP5.out.map (by omega))
            obtain ⟨lf, hlf⟩ : ∃ lf, cnt (fun p => !(setR us true a m).getD p false) k = lf := ⟨_, rfl⟩
            rw [hlf] at HLF ⊢
            clear hlf T5
            go_wp2_with fail
            refine HLF.out.mono ?_
            rintro e w6 ⟨rfl, T6⟩
            have HP6 := Lib.hid (HP5.out.calm T6)
            go_wp2_with fail
            refine (len_h w6 _ D k _ HP6.out.map).mono ?_
            rintro e w7 ⟨rfl, T7⟩
            have HP7 := Lib.hid (HP6.out.calm T7)
            go_wp2_with fail
            have hu7 := used_h w7 _ D k _ HP7.out.map (by omega) (k : Int) (by omega)
            rw [decide_eq_true (by omega), Bool.true_and, Int.toNat_natCast, HP7.out.map.hi (Nat.le_refl _)] at hu7
            refine hu7.mono ?_
            rintro e w8 ⟨rfl, T8⟩
            have HP8 := Lib.hid (HP7.out.calm T8)
            clear hu7
            go_wp2_with fail
            have hu8 := used_h w8 _ D k _ HP8.out.map (by omega) (-1) (by omega)
            rw [decide_eq_false (by omega), Bool.false_and] at hu8
            refine hu8.mono ?_
            rintro e w9 ⟨rfl, T9⟩
            have HP9 := Lib.hid (HP8.out.calm T9)
            clear hu8
            go_wp2_with fail
            exact HE.out _ _ _ _ _ _ _ _ _ _ _ _ _ _ _ _ _ _ _ _ _ _ _ _ _ _ _ _ _ _ _ _ _ _ _ _ _ _ _ _ _ _ _ _ _ _ _ _ _ _ _ _ _ _ _ _ _ _ _ _ _ _ _ _ _ _ _ _ _ _ _ _ _ _ _ _ _ _ _ _ _ _ _ _ _ _ _ _ _ _ _ _ _ _ _ _ _ _ _ _ _ _ _ _ _ _ _ _ _ _ _ _ _ _ _ _ _ _ _ _ _ _ _ _ _ _ _ _ _ _ _ _ _ _ _ _ _ _ _ _ _ _ _ _ _ _ _ _ _ _ _ _ _ _ _ _ _ _ _ _ _ _ _ _ _ _ _ _ _ _ _ _ _ _ _ _ _ _ _ _ _ _ _ _ _ _ _ _ _ _ _ _ _ _ _ _ _ _ _ _ _ _ _ _ _ _ _ _ _ _ _ _ _ _ w9 HP9.out
        · have HNO := Lib.hid (take_no w3 F D k _ HS3.out.map (by omega) At M hAb hMb (fun hh => by have := hh.2.2.2.1; omega))
          go_wp2_with fail
          refine plays_can UB AB k At M false true us _ _ _ _ _ _ _ _ _ _ _ _ _ _ _ _ _ _ _ _ _ _ _ _ _ _ _ _ _ _ _ _ _ _ _ _ _ _ _ _ _ _ _ _ _ _ _ _ _ _ _ _ _ _ _ _ _ _ _ _ _ _ _ _ _ _ _ _ _ _ _ _ _ _ _ _ _ _ _ _ _ _ _ _ _ _ _ _ _ _ _ _ _ _ _ _ _ _ _ _ _ _ _ _ _ _ _ _ _ _ _ _ _ _ _ _ _ _ _ _ _ _ _ _ _ _ _ _ _ _ _ _ _ _ _ _ _ _ _ _ _ _ _ _ _ _ _ _ _ _ _ _ _ _ _ _ _ _ _ _ _ _ _ _ _ _ _ _ _ _ _ _ _ _ _ _ _ _ _ _ _ _ _ _ _ _ _ _ _ _ _ _ _ _ _ _ _ _ _ _ _ _ _ _ _ _ _ _ _ _ _ _ _ _ _ _ _ _ _ _ _ _ _ _ _ _ _ _ _ _ _ _ hk k1 k2 HS3.out.row HS3.out.len (fun h => by cases h) ?_
          intro _ _ _ _ _ _ _ _ _ _ _ _ _ _ _ _ _ _ _
          rw [Bool.false_and]
          go_wp2_with fail
          refine HNO.out.mono ?_
          rintro e w4 ⟨rfl, T4⟩
          have HS4 := Lib.hid (HS3.out.calm T4)
          have k14 : w4.cell? ⟨AB, 1, none⟩ = some (.int .i64 At) := (T4.cell (p := ⟨AB, 1, none⟩) (World.block_lt_of_cell? w3 _ k1) id).trans k1
          have k24 : w4.cell? ⟨AB, 2, none⟩ = some (.int .i64 M) := (T4.cell (p := ⟨AB, 2, none⟩) (World.block_lt_of_cell? w3 _ k2) id).trans k2
          go_wp2_with fail
          refine plays_set UB AB k At M false true us _ _ _ _ _ _ _ _ _ _ _ _ _ _ _ _ _ _ _ _ _ _ _ _ _ _ _ _ _ _ _ _ _ _ _ _ _ _ _ _ _ _ _ _ _ _ _ _ _ _ _ _ _ _ _ _ _ _ _ _ _ _ _ _ _ _ _ _ _ _ _ _ _ _ _ _ _ _ _ _ _ _ _ _ _ _ _ _ _ _ _ _ _ _ _ _ _ _ _ _ _ _ _ _ _ _ _ _ _ _ _ _ _ _ _ _ _ _ _ _ _ _ _ _ _ _ _ _ _ _ _ _ _ _ _ _ _ _ _ _ _ _ _ _ _ _ _ _ _ _ _ _ _ _ _ _ _ _ _ _ _ _ _ _ _ _ _ _ _ _ _ _ _ _ _ _ _ _ _ _ _ _ _ _ _ _ _ _ _ _ _ _ _ _ _ _ _ _ _ _ _ _ _ _ _ _ _ _ _ _ _ _ _ _ _ _ _ _ _ _ _ _ _ _ _ _ _ _ _ _ _ _ hk k14 k24 HS4.out.row HS4.out.len hnAB (fun h => by cases h) ?_
          intro _ _ _ _ _ _ _ _ _ _ _ _ _ _ _ _ _ wp hr hT
          rw [if_neg (by decide)] at hr
          have HPF := Lib.hid (HS4.out.put hr hT rfl)
          clear hr hT
          go_wp2_with fail
          refine plays_look UB D k (us) _ _ _ _ _ _ _ _ _ _ _ _ _ _ _ _ _ _ _ _ _ _ _ _ _ _ _ _ _ _ _ _ _ _ _ _ _ _ _ _ _ _ _ _ _ _ _ _ _ _ _ _ _ _ _ _ _ _ _ _ _ _ _ _ _ _ _ _ _ _ _ _ _ _ _ _ _ _ _ _ _ _ _ _ _ _ _ _ _ _ _ _ _ _ _ _ _ _ _ _ _ _ _ _ _ _ _ _ _ _ _ _ _ _ _ _ _ _ _ _ _ _ _ _ _ _ _ _ _ _ _ _ _ _ _ _ _ _ _ _ _ _ _ _ _ _ _ _ _ _ _ _ _ _ _ _ _ _ _ _ _ _ _ _ _ _ _ _ _ _ _ _ _ _ _ _ _ _ _ _ _ _ _ _ _ _ _ _ _ _ _ _ _ _ _ _ _ _ _ _ _ _ _ _ _ _ _ _ _ _ _ _ _ _ _ _ _ _ _ _ _ _ _ _ _ _ _ _ _ _ _ _ (fun e d v a w => HQ.out e d v a w) hk HPF.out.row HPF.out.len (fun wr T j hj => by
            have := used_h wr _ D k _ (HPF.out.map.none T) (by omega) (j : Int) (by omega)
            rw [decide_eq_true (by omega), Bool.true_and, Int.toNat_natCast] at this
            exact this) ?_
          intro _ _ _ _ _ _ _ _ _ _ _ _ _ _ _ _ _ _ _ _ _ _ w5 T5
          have HP5 := Lib.hid (HPF.out.calm T5)
          have HLF := Lib.hid (left_h w5 _ D k _ HP5.out.map (by omega))
          obtain ⟨lf, hlf⟩ : ∃ lf, cnt (fun p => !(us).getD p false) k = lf := ⟨_, rfl⟩
          rw [hlf] at HLF ⊢
          clear hlf T5
          go_wp2_with fail
          refine HLF.out.mono ?_
          rintro e w6 ⟨rfl, T6⟩
          have HP6 := Lib.hid (HP5.out.calm T6)
          go_wp2_with fail
          refine (len_h w6 _ D k _ HP6.out.map).mono ?_
          rintro e w7 ⟨rfl, T7⟩
          have HP7 := Lib.hid (HP6.out.calm T7)
          go_wp2_with fail
          have hu7 := used_h w7 _ D k _ HP7.out.map (by omega) (k : Int) (by omega)
          rw [decide_eq_true (by omega), Bool.true_and, Int.toNat_natCast, HP7.out.map.hi (Nat.le_refl _)] at hu7
          refine hu7.mono ?_
          rintro e w8 ⟨rfl, T8⟩
          have HP8 := Lib.hid (HP7.out.calm T8)
          clear hu7
          go_wp2_with fail
          have hu8 := used_h w8 _ D k _ HP8.out.map (by omega) (-1) (by omega)
          rw [decide_eq_false (by omega), Bool.false_and] at hu8
          refine hu8.mono ?_
          rintro e w9 ⟨rfl, T9⟩
          have HP9 := Lib.hid (HP8.out.calm T9)
          clear hu8
          go_wp2_with fail
          exact HE.out _ _ _ _ _ _ _ _ _ _ _ _ _ _ _ _ _ _ _ _ _ _ _ _ _ _ _ _ _ _ _ _ _ _ _ _ _ _ _ _ _ _ _ _ _ _ _ _ _ _ _ _ _ _ _ _ _ _ _ _ _ _ _ _ _ _ _ _ _ _ _ _ _ _ _ _ _ _ _ _ _ _ _ _ _ _ _ _ _ _ _ _ _ _ _ _ _ _ _ _ _ _ _ _ _ _ _ _ _ _ _ _ _ _ _ _ _ _ _ _ _ _ _ _ _ _ _ _ _ _ _ _ _ _ _ _ _ _ _ _ _ _ _ _ _ _ _ _ _ _ _ _ _ _ _ _ _ _ _ _ _ _ _ _ _ _ _ _ _ _ _ _ _ _ _ _ _ _ _ _ _ _ _ _ _ _ _ _ _ _ _ _ _ _ _ _ _ _ _ _ _ _ _ _ _ _ _ _ _ _ _ _ _ _ w9 HP9.out
      · have HNO := Lib.hid (take_no w3 F D k _ HS3.out.map (by omega) At M hAb hMb (fun hh => by have := hh.2.2.1; omega))
        go_wp2_with fail
        refine plays_can UB AB k At M false true us _ _ _ _ _ _ _ _ _ _ _ _ _ _ _ _ _ _ _ _ _ _ _ _ _ _ _ _ _ _ _ _ _ _ _ _ _ _ _ _ _ _ _ _ _ _ _ _ _ _ _ _ _ _ _ _ _ _ _ _ _ _ _ _ _ _ _ _ _ _ _ _ _ _ _ _ _ _ _ _ _ _ _ _ _ _ _ _ _ _ _ _ _ _ _ _ _ _ _ _ _ _ _ _ _ _ _ _ _ _ _ _ _ _ _ _ _ _ _ _ _ _ _ _ _ _ _ _ _ _ _ _ _ _ _ _ _ _ _ _ _ _ _ _ _ _ _ _ _ _ _ _ _ _ _ _ _ _ _ _ _ _ _ _ _ _ _ _ _ _ _ _ _ _ _ _ _ _ _ _ _ _ _ _ _ _ _ _ _ _ _ _ _ _ _ _ _ _ _ _ _ _ _ _ _ _ _ _ _ _ _ _ _ _ _ _ _ _ _ _ _ _ _ _ _ _ _ _ _ _ _ _ hk k1 k2 HS3.out.row HS3.out.len (fun h => by cases h) ?_
        intro _ _ _ _ _ _ _ _ _ _ _ _ _ _ _ _ _ _ _
        rw [Bool.false_and]
        go_wp2_with fail
        refine HNO.out.mono ?_
        rintro e w4 ⟨rfl, T4⟩
        have HS4 := Lib.hid (HS3.out.calm T4)
        have k14 : w4.cell? ⟨AB, 1, none⟩ = some (.int .i64 At) := (T4.cell (p := ⟨AB, 1, none⟩) (World.block_lt_of_cell? w3 _ k1) id).trans k1
        have k24 : w4.cell? ⟨AB, 2, none⟩ = some (.int .i64 M) := (T4.cell (p := ⟨AB, 2, none⟩) (World.block_lt_of_cell? w3 _ k2) id).trans k2
        go_wp2_with fail
        refine plays_set UB AB k At M false true us _ _ _ _ _ _ _ _ _ _ _ _ _ _ _ _ _ _ _ _ _ _ _ _ _ _ _ _ _ _ _ _ _ _ _ _ _ _ _ _ _ _ _ _ _ _ _ _ _ _ _ _ _ _ _ _ _ _ _ _ _ _ _ _ _ _ _ _ _ _ _ _ _ _ _ _ _ _ _ _ _ _ _ _ _ _ _ _ _ _ _ _ _ _ _ _ _ _ _ _ _ _ _ _ _ _ _ _ _ _ _ _ _ _ _ _ _ _ _ _ _ _ _ _ _ _ _ _ _ _ _ _ _ _ _ _ _ _ _ _ _ _ _ _ _ _ _ _ _ _ _ _ _ _ _ _ _ _ _ _ _ _ _ _ _ _ _ _ _ _ _ _ _ _ _ _ _ _ _ _ _ _ _ _ _ _ _ _ _ _ _ _ _ _ _ _ _ _ _ _ _ _ _ _ _ _ _ _ _ _ _ _ _ _ _ _ _ _ _ _ _ _ _ _ _ _ _ _ _ _ _ _ hk k14 k24 HS4.out.row HS4.out.len hnAB (fun h => by cases h) ?_
        intro _ _ _ _ _ _ _ _ _ _ _ _ _ _ _ _ _ wp hr hT
        rw [if_neg (by decide)] at hr
        have HPF := Lib.hid (HS4.out.put hr hT rfl)
        clear hr hT
        go_wp2_with fail
        refine plays_look UB D k (us) _ _ _ _ _ _ _ _ _ _ _ _ _ _ _ _ _ _ _ _ _ _ _ _ _ _ _ _ _ _ _ _ _ _ _ _ _ _ _ _ _ _ _ _ _ _ _ _ _ _ _ _ _ _ _ _ _ _ _ _ _ _ _ _ _ _ _ _ _ _ _ _ _ _ _ _ _ _ _ _ _ _ _ _ _ _ _ _ _ _ _ _ _ _ _ _ _ _ _ _ _ _ _ _ _ _ _ _ _ _ _ _ _ _ _ _ _ _ _ _ _ _ _ _ _ _ _ _ _ _ _ _ _ _ _ _ _ _ _ _ _ _ _ _ _ _ _ _ _ _ _ _ _ _ _ _ _ _ _ _ _ _ _ _ _ _ _ _ _ _ _ _ _ _ _ _ _ _ _ _ _ _ _ _ _ _ _ _ _ _ _ _ _ _ _ _ _ _ _ _ _ _ _ _ _ _ _ _ _ _ _ _ _ _ _ _ _ _ _ _ _ _ _ _ _ _ _ _ _ _ _ _ (fun e d v a w => HQ.out e d v a w) hk HPF.out.row HPF.out.len (fun wr T j hj => by
          have := used_h wr _ D k _ (HPF.out.map.none T) (by omega) (j : Int) (by omega)
          rw [decide_eq_true (by omega), Bool.true_and, Int.toNat_natCast] at this
          exact this) ?_
        intro _ _ _ _ _ _ _ _ _ _ _ _ _ _ _ _ _ _ _ _ _ _ w5 T5
        have HP5 := Lib.hid (HPF.out.calm T5)
        have HLF := Lib.hid (left_h w5 _ D k _ HP5.out.map (by omega))
        obtain ⟨lf, hlf⟩ : ∃ lf, cnt (fun p => !(us).getD p false) k = lf := ⟨_, rfl⟩
        rw [hlf] at HLF ⊢
        clear hlf T5
        go_wp2_with fail
        refine HLF.out.mono ?_
        rintro e w6 ⟨rfl, T6⟩
        have HP6 := Lib.hid (HP5.out.calm T6)
        go_wp2_with fail
        refine (len_h w6 _ D k _ HP6.out.map).mono ?_
        rintro e w7 ⟨rfl, T7⟩
        have HP7 := Lib.hid (HP6.out.calm T7)
        go_wp2_with fail
        have hu7 := used_h w7 _ D k _ HP7.out.map (by omega) (k : Int) (by omega)
        rw [decide_eq_true (by omega), Bool.true_and, Int.toNat_natCast, HP7.out.map.hi (Nat.le_refl _)] at hu7
        refine hu7.mono ?_
        rintro e w8 ⟨rfl, T8⟩
        have HP8 := Lib.hid (HP7.out.calm T8)
        clear hu7
        go_wp2_with fail
        have hu8 := used_h w8 _ D k _ HP8.out.map (by omega) (-1) (by omega)
        rw [decide_eq_false (by omega), Bool.false_and] at hu8
        refine hu8.mono ?_
        rintro e w9 ⟨rfl, T9⟩
        have HP9 := Lib.hid (HP8.out.calm T9)
        clear hu8
        go_wp2_with fail
        exact HE.out _ _ _ _ _ _ _ _ _ _ _ _ _ _ _ _ _ _ _ _ _ _ _ _ _ _ _ _ _ _ _ _ _ _ _ _ _ _ _ _ _ _ _ _ _ _ _ _ _ _ _ _ _ _ _ _ _ _ _ _ _ _ _ _ _ _ _ _ _ _ _ _ _ _ _ _ _ _ _ _ _ _ _ _ _ _ _ _ _ _ _ _ _ _ _ _ _ _ _ _ _ _ _ _ _ _ _ _ _ _ _ _ _ _ _ _ _ _ _ _ _ _ _ _ _ _ _ _ _ _ _ _ _ _ _ _ _ _ _ _ _ _ _ _ _ _ _ _ _ _ _ _ _ _ _ _ _ _ _ _ _ _ _ _ _ _ _ _ _ _ _ _ _ _ _ _ _ _ _ _ _ _ _ _ _ _ _ _ _ _ _ _ _ _ _ _ _ _ _ _ _ _ _ _ _ _ _ _ _ _ _ _ _ _ w9 HP9.out
    · have HNO := Lib.hid (take_no w3 F D k _ HS3.out.map (by omega) At M hAb hMb (fun hh => by have := hh.1; omega))
      go_wp2_with fail
      refine plays_can UB AB k At M false true us _ _ _ _ _ _ _ _ _ _ _ _ _ _ _ _ _ _ _ _ _ _ _ _ _ _ _ _ _ _ _ _ _ _ _ _ _ _ _ _ _ _ _ _ _ _ _ _ _ _ _ _ _ _ _ _ _ _ _ _ _ _ _ _ _ _ _ _ _ _ _ _ _ _ _ _ _ _ _ _ _ _ _ _ _ _ _ _ _ _ _ _ _ _ _ _ _ _ _ _ _ _ _ _ _ _ _ _ _ _ _ _ _ _ _ _ _ _ _ _ _ _ _ _ _ _ _ _ _ _ _ _ _ _ _ _ _ _ _ _ _ _ _ _ _ _ _ _ _ _ _ _ _ _ _ _ _ _ _ _ _ _ _ _ _ _ _ _ _ _ _ _ _ _ _ _ _ _ _ _ _ _ _ _ _ _ _ _ _ _ _ _ _ _ _ _ _ _ _ _ _ _ _ _ _ _ _ _ _ _ _ _ _ _ _ _ _ _ _ _ _ _ _ _ _ _ _ _ _ _ _ _ hk k1 k2 HS3.out.row HS3.out.len (fun h => by cases h) ?_
      intro _ _ _ _ _ _ _ _ _ _ _ _ _ _ _ _ _ _ _
      rw [Bool.false_and]
      go_wp2_with fail
      refine HNO.out.mono ?_
      rintro e w4 ⟨rfl, T4⟩
      have HS4 := Lib.hid (HS3.out.calm T4)
      have k14 : w4.cell? ⟨AB, 1, none⟩ = some (.int .i64 At) := (T4.cell (p := ⟨AB, 1, none⟩) (World.block_lt_of_cell? w3 _ k1) id).trans k1
      have k24 : w4.cell? ⟨AB, 2, none⟩ = some (.int .i64 M) := (T4.cell (p := ⟨AB, 2, none⟩) (World.block_lt_of_cell? w3 _ k2) id).trans k2
      go_wp2_with fail
      refine plays_set UB AB k At M false true us _ _ _ _ _ _ _ _ _ _ _ _ _ _ _ _ _ _ _ _ _ _ _ _ _ _ _ _ _ _ _ _ _ _ _ _ _ _ _ _ _ _ _ _ _ _ _ _ _ _ _ _ _ _ _ _ _ _ _ _ _ _ _ _ _ _ _ _ _ _ _ _ _ _ _ _ _ _ _ _ _ _ _ _ _ _ _ _ _ _ _ _ _ _ _ _ _ _ _ _ _ _ _ _ _ _ _ _ _ _ _ _ _ _ _ _ _ _ _ _ _ _ _ _ _ _ _ _ _ _ _ _ _ _ _ _ _ _ _ _ _ _ _ _ _ _ _ _ _ _ _ _ _ _ _ _ _ _ _ _ _ _ _ _ _ _ _ _ _ _ _ _ _ _ _ _ _ _ _ _ _ _ _ _ _ _ _ _ _ _ _ _ _ _ _ _ _ _ _ _ _ _ _ _ _ _ _ _ _ _ _ _ _ _ _ _ _ _ _ _ _ _ _ _ _ _ _ _ _ _ _ _ hk k14 k24 HS4.out.row HS4.out.len hnAB (fun h => by cases h) ?_
      intro _ _ _ _ _ _ _ _ _ _ _ _ _ _ _ _ _ wp hr hT
      rw [if_neg (by decide)] at hr
      have HPF := Lib.hid (HS4.out.put hr hT rfl)
      clear hr hT
      go_wp2_with fail
      refine plays_look UB D k (us) _ _ _ _ _ _ _ _ _ _ _ _ _ _ _ _ _ _ _ _ _ _ _ _ _ _ _ _ _ _ _ _ _ _ _ _ _ _ _ _ _ _ _ _ _ _ _ _ _ _ _ _ _ _ _ _ _ _ _ _ _ _ _ _ _ _ _ _ _ _ _ _ _ _ _ _ _ _ _ _ _ _ _ _ _ _ _ _ _ _ _ _ _ _ _ _ _ _ _ _ _ _ _ _ _ _ _ _ _ _ _ _ _ _ _ _ _ _ _ _ _ _ _ _ _ _ _ _ _ _ _ _ _ _ _ _ _ _ _ _ _ _ _ _ _ _ _ _ _ _ _ _ _ _ _ _ _ _ _ _ _ _ _ _ _ _ _ _ _ _ _ _ _ _ _ _ _ _ _ _ _ _ _ _ _ _ _ _ _ _ _ _ _ _ _ _ _ _ _ _ _ _ _ _ _ _ _ _ _ _ _ _ _ _ _ _ _ _ _ _ _ _ _ _ _ _ _ _ _ _ _ _ (fun e d v a w => HQ.out e d v a w) hk HPF.out.row HPF.out.len (fun wr T j hj => by
        have := used_h wr _ D k _ (HPF.out.map.none T) (by omega) (j : Int) (by omega)
        rw [decide_eq_true (by omega), Bool.true_and, Int.toNat_natCast] at this
        exact this) ?_
      intro _ _ _ _ _ _ _ _ _ _ _ _ _ _ _ _ _ _ _ _ _ _ w5 T5
      have HP5 := Lib.hid (HPF.out.calm T5)
      have HLF := Lib.hid (left_h w5 _ D k _ HP5.out.map (by omega))
      obtain ⟨lf, hlf⟩ : ∃ lf, cnt (fun p => !(us).getD p false) k = lf := ⟨_, rfl⟩
      rw [hlf] at HLF ⊢
      clear hlf T5
      go_wp2_with fail
      refine HLF.out.mono ?_
      rintro e w6 ⟨rfl, T6⟩
      have HP6 := Lib.hid (HP5.out.calm T6)
      go_wp2_with fail
      refine (len_h w6 _ D k _ HP6.out.map).mono ?_
      rintro e w7 ⟨rfl, T7⟩
      have HP7 := Lib.hid (HP6.out.calm T7)
      go_wp2_with fail
      have hu7 := used_h w7 _ D k _ HP7.out.map (by omega) (k : Int) (by omega)
      rw [decide_eq_true (by omega), Bool.true_and, Int.toNat_natCast, HP7.out.map.hi (Nat.le_refl _)] at hu7
      refine hu7.mono ?_
      rintro e w8 ⟨rfl, T8⟩
      have HP8 := Lib.hid (HP7.out.calm T8)
      clear hu7
      go_wp2_with fail
      have hu8 := used_h w8 _ D k _ HP8.out.map (by omega) (-1) (by omega)
      rw [decide_eq_false (by omega), Bool.false_and] at hu8
      refine hu8.mono ?_
      rintro e w9 ⟨rfl, T9⟩
      have HP9 := Lib.hid (HP8.out.calm T9)
      clear hu8
      go_wp2_with fail
      exact HE.out _ _ _ _ _ _ _ _ _ _ _ _ _ _ _ _ _ _ _ _ _ _ _ _ _ _ _ _ _ _ _ _ _ _ _ _ _ _ _ _ _ _ _ _ _ _ _ _ _ _ _ _ _ _ _ _ _ _ _ _ _ _ _ _ _ _ _ _ _ _ _ _ _ _ _ _ _ _ _ _ _ _ _ _ _ _ _ _ _ _ _ _ _ _ _ _ _ _ _ _ _ _ _ _ _ _ _ _ _ _ _ _ _ _ _ _ _ _ _ _ _ _ _ _ _ _ _ _ _ _ _ _ _ _ _ _ _ _ _ _ _ _ _ _ _ _ _ _ _ _ _ _ _ _ _ _ _ _ _ _ _ _ _ _ _ _ _ _ _ _ _ _ _ _ _ _ _ _ _ _ _ _ _ _ _ _ _ _ _ _ _ _ _ _ _ _ _ _ _ _ _ _ _ _ _ _ _ _ _ _ _ _ _ _ w9 HP9.out
  · have HNO := Lib.hid (take_no w3 F D k _ HS3.out.map (by omega) At M hAb hMb (fun hh => by have := hh.2.1; omega))
    go_wp2_with fail
    refine plays_can UB AB k At M false true us _ _ _ _ _ _ _ _ _ _ _ _ _ _ _ _ _ _ _ _ _ _ _ _ _ _ _ _ _ _ _ _ _ _ _ _ _ _ _ _ _ _ _ _ _ _ _ _ _ _ _ _ _ _ _ _ _ _ _ _ _ _ _ _ _ _ _ _ _ _ _ _ _ _ _ _ _ _ _ _ _ _ _ _ _ _ _ _ _ _ _ _ _ _ _ _ _ _ _ _ _ _ _ _ _ _ _ _ _ _ _ _ _ _ _ _ _ _ _ _ _ _ _ _ _ _ _ _ _ _ _ _ _ _ _ _ _ _ _ _ _ _ _ _ _ _ _ _ _ _ _ _ _ _ _ _ _ _ _ _ _ _ _ _ _ _ _ _ _ _ _ _ _ _ _ _ _ _ _ _ _ _ _ _ _ _ _ _ _ _ _ _ _ _ _ _ _ _ _ _ _ _ _ _ _ _ _ _ _ _ _ _ _ _ _ _ _ _ _ _ _ _ _ _ _ _ _ _ _ _ _ _ hk k1 k2 HS3.out.row HS3.out.len (fun h => by cases h) ?_
    intro _ _ _ _ _ _ _ _ _ _ _ _ _ _ _ _ _ _ _
    rw [Bool.false_and]
    go_wp2_with fail
    refine HNO.out.mono ?_
    rintro e w4 ⟨rfl, T4⟩
    have HS4 := Lib.hid (HS3.out.calm T4)
    have k14 : w4.cell? ⟨AB, 1, none⟩ = some (.int .i64 At) := (T4.cell (p := ⟨AB, 1, none⟩) (World.block_lt_of_cell? w3 _ k1) id).trans k1
    have k24 : w4.cell? ⟨AB, 2, none⟩ = some (.int .i64 M) := (T4.cell (p := ⟨AB, 2, none⟩) (World.block_lt_of_cell? w3 _ k2) id).trans k2
    go_wp2_with fail
    refine plays_set UB AB k At M false true us _ _ _ _ _ _ _ _ _ _ _ _ _ _ _ _ _ _ _ _ _ _ _ _ _ _ _ _ _ _ _ _ _ _ _ _ _ _ _ _ _ _ _ _ _ _ _ _ _ _ _ _ _ _ _ _ _ _ _ _ _ _ _ _ _ _ _ _ _ _ _ _ _ _ _ _ _ _ _ _ _ _ _ _ _ _ _ _ _ _ _ _ _ _ _ _ _ _ _ _ _ _ _ _ _ _ _ _ _ _ _ _ _ _ _ _ _ _ _ _ _ _ _ _ _ _ _ _ _ _ _ _ _ _ _ _ _ _ _ _ _ _ _ _ _ _ _ _ _ _ _ _ _ _ _ _ _ _ _ _ _ _ _ _ _ _ _ _ _ _ _ _ _ _ _ _ _ _ _ _ _ _ _ _ _ _ _ _ _ _ _ _ _ _ _ _ _ _ _ _ _ _ _ _ _ _ _ _ _ _ _ _ _ _ _ _ _ _ _ _ _ _ _ _ _ _ _ _ _ _ _ _ hk k14 k24 HS4.out.row HS4.out.len hnAB (fun h => by cases h) ?_
    intro _ _ _ _ _ _ _ _ _ _ _ _ _ _ _ _ _ wp hr hT
    rw [if_neg (by decide)] at hr
    have HPF := Lib.hid (HS4.out.put hr hT rfl)
    clear hr hT
    go_wp2_with fail
    refine plays_look UB D k (us) _ _ _ _ _ _ _ _ _ _ _ _ _ _ _ _ _ _ _ _ _ _ _ _ _ _ _ _ _ _ _ _ _ _ _ _ _ _ _ _ _ _ _ _ _ _ _ _ _ _ _ _ _ _ _ _ _ _ _ _ _ _ _ _ _ _ _ _ _ _ _ _ _ _ _ _ _ _ _ _ _ _ _ _ _ _ _ _ _ _ _ _ _ _ _ _ _ _ _ _ _ _ _ _ _ _ _ _ _ _ _ _ _ _ _ _ _ _ _ _ _ _ _ _ _ _ _ _ _ _ _ _ _ _ _ _ _ _ _ _ _ _ _ _ _ _ _ _ _ _ _ _ _ _ _ _ _ _ _ _ _ _ _ _ _ _ _ _ _ _ _ _ _ _ _ _ _ _ _ _ _ _ _ _ _ _ _ _ _ _ _ _ _ _ _ _ _ _ _ _ _ _ _ _ _ _ _ _ _ _ _ _ _ _ _ _ _ _ _ _ _ _ _ _ _ _ _ _ _ _ _ _ (fun e d v a w => HQ.out e d v a w) hk HPF.out.row HPF.out.len (fun wr T j hj => by
      have := used_h wr _ D k _ (HPF.out.map.none T) (by omega) (j : Int) (by omega)
      rw [decide_eq_true (by omega), Bool.true_and, Int.toNat_natCast] at this
      exact this) ?_
    intro _ _ _ _ _ _ _ _ _ _ _ _ _ _ _ _ _ _ _ _ _ _ w5 T5
    have HP5 := Lib.hid (HPF.out.calm T5)
    have HLF := Lib.hid (left_h w5 _ D k _ HP5.out.map (by omega))
    obtain ⟨lf, hlf⟩ : ∃ lf, cnt (fun p => !(us).getD p false) k = lf := ⟨_, rfl⟩
    rw [hlf] at HLF ⊢
    clear hlf T5
    go_wp2_with fail
    refine HLF.out.mono ?_
    rintro e w6 ⟨rfl, T6⟩
    have HP6 := Lib.hid (HP5.out.calm T6)
    go_wp2_with fail
    refine (len_h w6 _ D k _ HP6.out.map).mono ?_
    rintro e w7 ⟨rfl, T7⟩
    have HP7 := Lib.hid (HP6.out.calm T7)
    go_wp2_with fail
    have hu7 := used_h w7 _ D k _ HP7.out.map (by omega) (k : Int) (by omega)
    rw [decide_eq_true (by omega), Bool.true_and, Int.toNat_natCast, HP7.out.map.hi (Nat.le_refl _)] at hu7
    refine hu7.mono ?_
    rintro e w8 ⟨rfl, T8⟩
    have HP8 := Lib.hid (HP7.out.calm T8)
    clear hu7
    go_wp2_with fail
    have hu8 := used_h w8 _ D k _ HP8.out.map (by omega) (-1) (by omega)
    rw [decide_eq_false (by omega), Bool.false_and] at hu8
    refine hu8.mono ?_
    rintro e w9 ⟨rfl, T9⟩
    have HP9 := Lib.hid (HP8.out.calm T9)
    clear hu8
    go_wp2_with fail
    exact HE.out _ _ _ _ _ _ _ _ _ _ _ _ _ _ _ _ _ _ _ _ _ _ _ _ _ _ _ _ _ _ _ _ _ _ _ _ _ _ _ _ _ _ _ _ _ _ _ _ _ _ _ _ _ _ _ _ _ _ _ _ _ _ _ _ _ _ _ _ _ _ _ _ _ _ _ _ _ _ _ _ _ _ _ _ _ _ _ _ _ _ _ _ _ _ _ _ _ _ _ _ _ _ _ _ _ _ _ _ _ _ _ _ _ _ _ _ _ _ _ _ _ _ _ _ _ _ _ _ _ _ _ _ _ _ _ _ _ _ _ _ _ _ _ _ _ _ _ _ _ _ _ _ _ _ _ _ _ _ _ _ _ _ _ _ _ _ _ _ _ _ _ _ _ _ _ _ _ _ _ _ _ _ _ _ _ _ _ _ _ _ _ _ _ _ _ _ _ _ _ _ _ _ _ _ _ _ _ _ _ _ _ _ _ _ w9 HP9.out
end Go.Proofs.Ytmhdcpkncaghpaa
