/- Own texts, packed: Of, Aw. No statement is proved here. -/
import Derived.Test.YtkciaafkhpjnaaaQ24
import Derived.Test.YtkciaafkhpjnaaaQ30
import Derived.Test.YtkciaafkhpjnaaaQ32
import Derived.Test.YtkciaafkhpjnaaaQ26
import Derived.Test.YtkciaafkhpjnaaaQ20
import Derived.Test.YtkciaafkhpjnaaaQ29
import Derived.Test.YtkciaafkhpjnaaaQ17
namespace Go.Proofs.Ytkciaafkhpjnaaa
set_option maxRecDepth 100000
open Go.RowKit
set_option linter.unusedVariables false
set_option linter.unusedSimpArgs false

def IOk (l : List El) : Prop := ∀ x ∈ l, I64 x.id ∧ I64 x.par
set_option maxHeartbeats 16000000 in
theorem dif_any (w : World) (va vb : Value) (a b : List El) (ha : RowV w va a) (hb : RowV w vb b) (hka : KOk a) (hkb : KOk b) (hia : IOk a) (hib : IOk b) (hla : a.length ≤ 100) (hlb : b.length ≤ 100) : Calls Try.prog 11 #[va, vb] w (DifP w (diffE a b)) := by
  have HA := Lib.hid ha
  have HB := Lib.hid hb
  have HKA := Lib.hid hka
  have HKB := Lib.hid hkb
  have HIA := Lib.hid hia
  have HIB := Lib.hid hib
  have HL := Lib.hid (show a.length ≤ 100 ∧ b.length ≤ 100 by omega)
  clear ha hb hka hkb hia hib hla hlb
  go_enter Try.func11, Try.ntmps11
  go_wp2_with fail
  refine (rises_any w _ a HA.out (by have := HL.out; omega)).mono ?_
  rintro r w1 ⟨rfl, t1⟩
  have T1 := Lib.hid t1
  clear t1
  cases ra : risesB a
  · have HD := Lib.hid (diff_form (a := a) (b := b) (.inl ra))
    clear ra
    go_wp2_with fail
    go_ret2
    refine ⟨_, by rw [HD.out]; rfl, by rw [HD.out]; exact .inl ⟨rfl, rfl⟩, T1.out⟩
  · go_wp2_with (go_at_call 26; refine (rises_any w1 _ b (HB.out.turn T1.out (fun _ _ => id)) (by have := HL.out; omega)).mono ?_; rintro r w2 ⟨rfl, t2⟩; have T2 := Lib.hid (T1.out.trans t2 (fun _ _ => id)); clear t2; refine still ?_)
    unfold Still
    cases rb : risesB b
    · have HD := Lib.hid (diff_form (a := a) (b := b) (.inr rb))
      clear ra rb
      go_wp2_with fail
      go_ret2
      refine ⟨_, by rw [HD.out]; rfl, by rw [HD.out]; exact .inl ⟨rfl, rfl⟩, T2.out⟩
    · have HRA := Lib.hid ((risesB_iff a).1 ra)
      have HRB := Lib.hid ((risesB_iff b).1 rb)
      have HRA1 := Lib.hid ra
      have HRB1 := Lib.hid rb
      clear ra rb
      go_wp2_with fail
      refine (alone_any w2 _ _ b a (HB.out.turn T2.out (fun _ _ => id)) (HA.out.turn T2.out (fun _ _ => id)) HRB.out HRA.out HL.out.2 HL.out.1 HIB.out).mono ?_
      rintro r w3 ⟨v6, rfl, o6, t3⟩
      have T3 := Lib.hid (T2.out.trans t3 (fun _ _ => id))
      have O6 := Lib.hid o6
      clear t3 o6
      go_wp2_with fail
      refine (alone_any w3 _ _ a b (HA.out.turn T3.out (fun _ _ => id)) (HB.out.turn T3.out (fun _ _ => id)) HRA.out HRB.out HL.out.1 HL.out.2 HIA.out).mono ?_
      rintro r w4 ⟨v8, rfl, o8, t4⟩
      have T4 := Lib.hid (T3.out.trans t4 (fun _ _ => id))
      have O6b := Lib.hid (t4.owns O6.out (fun _ _ => id))
      have O8 := Lib.hid o8
      clear t4 o8
      cases ob : ordOk b a
      · have HD := Lib.hid (diff_par (a := a) (b := b) HRA1.out HRB1.out (.inl ob))
        clear ob
        go_wp2_with fail
        go_ret2
        refine ⟨_, by rw [HD.out]; rfl, by rw [HD.out]; exact .inl ⟨rfl, rfl⟩, T4.out⟩
      · cases oa : ordOk a b
        · have HD := Lib.hid (diff_par (a := a) (b := b) HRA1.out HRB1.out (.inr oa))
          clear ob oa
          go_wp2_with fail
          go_ret2
          refine ⟨_, by rw [HD.out]; rfl, by rw [HD.out]; exact .inl ⟨rfl, rfl⟩, T4.out⟩
        · have HD := Lib.hid (diff_ok HRA1.out HRB1.out ob oa)
          have HPL := Lib.hid (show (ordE b a).length ≤ 100 ∧ (ordE a b).length ≤ 100 by
            have h1 := (ord_perm HRB.out ob).length_eq
            have h2 := (ord_perm HRA.out oa).length_eq
            have h3 := List.length_filter_le (fun e => !hasB a e.id) b
            have h4 := List.length_filter_le (fun e => !hasB b e.id) a
            have := HL.out
            omega)
          clear ob oa
          obtain ⟨P, hP⟩ : ∃ P, ordE b a = P := ⟨_, rfl⟩
          obtain ⟨Q, hQ⟩ : ∃ Q, ordE a b = Q := ⟨_, rfl⟩
          rw [hP, hQ] at HD HPL
          rw [hP] at O6b
          rw [hP] at O6
          rw [hQ] at O8
          clear hP hQ
          obtain ⟨q, hq⟩ : ∃ q, Q.length = q := ⟨_, rfl⟩
          have o8 := O8.out
          rw [hq] at o8
          obtain ⟨qa, qc, rfl⟩ := own_slice24 o8
          have HQN := Lib.hid hq
          have O8b := Lib.hid o8
          have HPB := Lib.hid (show ∀ g, v6.ownBlock = some g → ¬ (Value.slice qa q qc).ownBlock = some g from fun g h1 h2 => by
            have := (own_blk_of O6.out h1).2.1
            have := (own_blk_of O8b.out h2).1
            omega)
          have hq1 : q ≤ 100 := by rw [← hq]; exact HPL.out.2
          clear hq o8 O8
          go_wp2_with fail
          refine (rev_els w4 _ qa q qc Q O8b.out HQN.out (by omega)).mono ?_
          rintro r w5 ⟨rfl, o5, t5⟩
          have T5 := Lib.hid (T4.out.trans t5 (fun g hg e => by
            obtain ⟨h1, _⟩ := own_blk_of O8b.out e
            have := T3.out.size
            omega))
          have RP := Lib.hid ((own_rowV O6b.out).turn t5 (fun g hg => HPB.out g hg))
          have RQ := Lib.hid (show RowV w5 (.slice qa q qc) Q.reverse from own_rowV (by rw [List.length_reverse, HQN.out]; exact o5))
          clear t5 o5
          go_wp2_with fail
          refine (whole_any w5 1 _ P RP.out (by have := HPL.out; omega)).mono ?_
          rintro r w6 ⟨e1, rfl, h1, t6⟩
          have T6 := Lib.hid (T5.out.trans t6 (fun _ _ => id))
          have E1 := Lib.hid h1.row
          have RQ6 := Lib.hid (RQ.out.turn t6 (fun _ _ => id))
          clear h1 t6
          go_wp2_with fail
          refine (sets_any w6 _ _ a b (HA.out.turn T6.out (fun _ _ => id)) (HB.out.turn T6.out (fun _ _ => id)) HRB.out HKA.out HKB.out HL.out.1 HL.out.2).mono ?_
          rintro r w7 ⟨e2, rfl, h2, t7⟩
          have T7 := Lib.hid (T6.out.trans t7 (fun _ _ => id))
          have E1b := Lib.hid (E1.out.turn t7 (fun _ _ => id))
          have E2 := Lib.hid h2.row
          have RQ7 := Lib.hid (RQ6.out.turn t7 (fun _ _ => id))
          clear h2 t7
          go_wp2_with fail
          refine (whole_any w7 2 _ Q.reverse RQ7.out (by rw [List.length_reverse, HQN.out]; omega)).mono ?_
          rintro r w8 ⟨e3, rfl, h3, t8⟩
          have T8 := Lib.hid (T7.out.trans t8 (fun _ _ => id))
          have E1c := Lib.hid (E1b.out.turn t8 (fun _ _ => id))
          have E2c := Lib.hid (E2.out.turn t8 (fun _ _ => id))
          have E3 := Lib.hid h3.row
          clear h3 t8
          have HMM := Lib.hid (many_eds3 E1c.out E2c.out E3.out)
          obtain ⟨G, hG⟩ : ∃ G, w8.heap.size = G := ⟨_, rfl⟩
          obtain ⟨w9, hw9⟩ : ∃ w9, w8.alloc (.cells #[e1, e2, e3] 28) = w9 := ⟨_, rfl⟩
          have hxb : ∀ ev op x y z, op.op = .buildSlice 90 3 #[(0, x), (1, y), (2, z)] → ev x = e1 → ev y = e2 → ev z = e3 → (execOp ev op).run Try.prog w8 = .ok (.value (.slice (some ⟨G, 0, none⟩) 3 3)) w9 := fun ev op x y z ho hx hy hz => by
            rw [← hw9, ← hG]
            exact exec_build_eds3 ev op x y z ho e1 e2 e3 (by obtain ⟨p, q, h⟩ := E1c.out.form; exact ⟨_, _, _, h⟩) (by obtain ⟨p, q, h⟩ := E2c.out.form; exact ⟨_, _, _, h⟩) (by obtain ⟨p, q, h⟩ := E3.out.form; exact ⟨_, _, _, h⟩) hx hy hz w8
          have T9 := Lib.hid (show Turn (fun _ => False) w w9 by rw [← hw9]; exact T8.out.alloc _)
          rw [hG, hw9] at HMM
          have HXB := Lib.hid hxb
          have HSL := Lib.hid (show sumLE [P.map (wholeE 1), setsE a b, Q.reverse.map (wholeE 2)] 3 ≤ 100000 by
            have := setsE_len a b
            have := HPL.out
            have := HL.out
            have := HQN.out
            simp only [sumLE, List.take, List.map_cons, List.map_nil, List.sum_cons, List.sum_nil, List.length_map, List.length_reverse]
            omega)
          clear hG hw9 hxb
          go_wp2_with (with_reducible (show wpList _ _ _ (Oper.mk (some 45) (.buildSlice 90 _ _) _ _ _ _ :: _) _ _); refine still ?_)
          refine list_exec rfl _ _ (HXB.out _ _ (.tmp 39) (.tmp 42) (.tmp 44) rfl rfl rfl rfl) ?_
          go_wp2_with fail
          refine (concat_eds w9 G 3 _ [P.map (wholeE 1), setsE a b, Q.reverse.map (wholeE 2)] 3 rfl (Nat.le_refl _) HMM.out (by omega) HSL.out).mono ?_
          rintro r w10 ⟨v, rfl, hv, t10⟩
          have T10 := Lib.hid (T9.out.trans t10 (fun _ _ => id))
          have HV := Lib.hid hv.row
          clear hv t10
          go_wp2_with fail
          go_ret2
          refine ⟨_, by rw [HD.out]; rfl, ?_, T10.out⟩
          rw [HD.out]
          have := HV.out
          simp only [List.flatten_cons, List.flatten_nil, List.append_nil] at this
          exact this

end Go.Proofs.Ytkciaafkhpjnaaa
namespace Go.Proofs.Ytkciaafkhpjnaaa
set_option maxRecDepth 100000
open Go.RowKit
set_option linter.unusedVariables false
set_option linter.unusedSimpArgs false

theorem GoodE.kok {c : List El} (h : GoodE c) : KOk c := h.kind
theorem GoodE.iok {c : List El} (h : GoodE c) : IOk c := fun x hx => by
  have := (right_iff.1 h.right).2.2 x hx
  have h1 := this.id
  have h2 := this.par
  unfold I64
  omega
def el1 : El := ⟨1, 1, 0, 0, e0, 0, 0, e0, e0, e0⟩
theorem exec_el1 (ev : Operand → Value) (op : Oper) (ho : op.op = .build 38 #[(0, .const (.int .i64 1)), (1, .const (.int .u8 1))]) (hc : ∀ v, ev (.const v) = v) (w : World) : (execOp ev op).run Try.prog w = .ok (.value (.agg el1.vals.toArray)) w := by
  have : (Instr.build 38 #[(0, .int .i64 1), (1, .int .u8 1)]).run Try.prog w = .ok (.agg el1.vals.toArray) w := by kernel_rfl
  unfold execOp
  simp only [ho, List.map_toArray, List.map_cons, List.map_nil, hc, Sem.run_bind, Sem.run_pure, this, Result.andThen_ok]
theorem diff_el1 : diffE [] [el1] = ([addD el1], 0) := by decide +kernel
theorem awake_any (w : World) : Calls Try.prog 8 #[] w fun e w' => e = .returned (.bool true) ∧ Turn (fun _ => False) w w' := by
  go_enter Try.func8, Try.ntmps8
  go_wp2_with (with_reducible (show wpList _ _ _ (Oper.mk (some 4) (.build 38 _) _ _ _ _ :: _) _ _); refine still ?_)
  refine list_exec rfl _ _ (exec_el1 _ _ rfl (fun _ => rfl) _) ?_
  go_wp2_with (with_reducible (show wpList _ _ _ (Oper.mk (some 5) (.buildSlice 25 _ _) _ _ _ _ :: _) _ _); refine still ?_)
  refine list_exec rfl _ _ (exec_build_one _ _ (.tmp 4) 25 Try.underlying25 rfl el1 rfl _) ?_
  obtain ⟨w1, hw1⟩ : ∃ w1, w.alloc (.cells el1.vals.toArray 38) = w1 := ⟨_, rfl⟩
  have hr : RowV w1 (.slice (some ⟨w.heap.size, 0, none⟩) 1 1) [el1] := by rw [← hw1]; exact one_rowV el1
  have t1 : Turn (fun _ => False) w w1 := by rw [← hw1]; exact (Turn.refl _ w).alloc _
  obtain ⟨B, hB⟩ : ∃ B, w.heap.size = B := ⟨_, rfl⟩
  rw [hB] at hr
  rw [hw1, hB]
  have HR := Lib.hid hr
  have T1 := Lib.hid t1
  clear hr t1 hw1 hB
  go_wp2_with fail
  refine (dif_any w1 _ _ [] [el1] (.inl ⟨rfl, rfl⟩) HR.out (fun x hx => by cases hx) (fun x hx => by rw [List.mem_singleton] at hx; subst hx; decide) (fun x hx => by cases hx) (fun x hx => by rw [List.mem_singleton] at hx; subst hx; unfold I64; decide) (by decide) (by decide)).mono ?_
  rintro r w2 ⟨v, rfl, hv, t2⟩
  rw [diff_el1] at hv ⊢
  obtain ⟨a, c, rfl⟩ := hv.form
  obtain ⟨g, o, rfl, hc, hs⟩ := hv.one rfl 0 (by decide)
  rw [Nat.zero_mul, Nat.add_zero] at hs
  have c0 : w2.cell? ⟨g, o, none⟩ = some (.int .u8 1) := hs 0 _ rfl
  have T2 := Lib.hid (T1.out.trans t2 (fun _ _ => id))
  clear hs hv t2
  go_wp2_with fail
  go_ret
  exact ⟨rfl, T2.out⟩

end Go.Proofs.Ytkciaafkhpjnaaa
