/- Own contracts: any chart, its bytes, and back. No statement is proved here. -/
import Derived.Test.YtokjlhpkjebnkaaByt
import Derived.Test.YtokjlhpkjebnkaaMkc
import Derived.Test.YtokjlhpkjebnkaaBt
namespace Go.Proofs.Ytokjlhpkjebnkaa
set_option maxRecDepth 100000
open Go.RowKit
set_option linter.unusedVariables false
set_option linter.unusedSimpArgs false


theorem str_same {xs ys : List Int} (hx : Bytes8 xs) (hy : Bytes8 ys) : ((strOfNums xs).toList == (strOfNums ys).toList) = decide (xs = ys) := by
  rw [name_eq]
  have : strOfNums xs = strOfNums ys ↔ xs = ys := ⟨fun h => by rw [← sB_str hx, ← sB_str hy, h], fun h => by rw [h]⟩
  simp [this]
theorem conv_exec (ev : Operand → Value) (op : Oper) (x : Operand) (ho : op.op = .convert 49 9 x) {v : Value} {xs : List Int} {w : World} (hx : ev x = v) (hr : Src w v xs) : (execOp ev op).run Try.prog w = .ok (.value (.string (strOfNums xs))) w := by
  unfold execOp
  simp only [ho, hx, Sem.run_bind, hr.conv, Result.andThen_ok, Sem.run_pure]

set_option maxHeartbeats 8000000 in
theorem wbytes_law (w : World) (v0 v1 : Value) (C0 : List El) (L : List A4) (raw : Bool) (h0 : RowV w v0 C0) (hok : ∀ x ∈ C0, x.Ok) (hb : C0.length ≤ 9223372036854775807) (h1 : ActsV w v1 L) : Calls Try.prog 7 #[v0, v1, .bool raw] w fun r w' => r = .returned (.bool true) ∧ Turn (fun _ => False) w w' := by
  obtain ⟨c0, k0, rfl⟩ := h0.form
  obtain ⟨c1, k1, rfl⟩ := h1.form
  obtain ⟨n, hn⟩ : ∃ n, C0.length = n := ⟨_, rfl⟩
  obtain ⟨m, hm⟩ : ∃ m, L.length = m := ⟨_, rfl⟩
  rw [hn] at h0 hb
  rw [hm] at h1
  rw [hn, hm]
  have HN := Lib.hid hn
  have HMM := Lib.hid hm
  have HV0 := Lib.hid h0
  have HV1 := Lib.hid h1
  have HK0 := Lib.hid (show ∀ x ∈ C0, 0 ≤ x.kind ∧ x.kind ≤ 255 from fun x hx => (hok x hx).kind)
  clear hn hm h0 h1 hok
  by_cases hbig : 50 < n ∨ 24 < m
  · have dd : decide ((50 : Int) < (n : Int)) = true ∨ (decide ((50 : Int) < (n : Int)) = false ∧ decide ((24 : Int) < (m : Int)) = true) := by
      by_cases h : 50 < n
      · exact .inl (decide_eq_true (by omega))
      · exact .inr ⟨decide_eq_false (by omega), decide_eq_true (by omega)⟩
    rcases dd with d1 | ⟨d1, d2⟩
    all_goals
      go_enter Try.func7, Try.ntmps7
      go_wp2_with fail
      refine (awake10 w).mono ?_
      rintro r w2 ⟨rfl, t2⟩
      have T2 := Lib.hid t2
      clear t2
      go_wp2_with fail
      refine (awake10 w2).mono ?_
      rintro r w3 ⟨rfl, t3⟩
      have T3 := Lib.hid (T2.out.trans t3 (fun _ _ => id))
      clear t3
      go_wp2_with fail
      go_ret
      exact ⟨by first | rfl | simp, T3.out⟩
  have d1 : decide ((50 : Int) < (n : Int)) = false := decide_eq_false (by omega)
  have d2 : decide ((24 : Int) < (m : Int)) = false := decide_eq_false (by omega)
  have HML0 := Lib.hid (show n ≤ 50 ∧ m ≤ 24 from by omega)
  go_enter Try.func7, Try.ntmps7
  cases raw
  · go_wp2_with fail
    refine (awake10 w).mono ?_
    rintro r w2 ⟨rfl, t2⟩
    have T2 := Lib.hid t2
    clear t2
    go_wp2_with fail
    refine (make_any w2 _ L (HV1.out.turn T2.out) (by rw [HMM.out]; have := HML0.out; omega)).mono ?_
    rintro r w3 ⟨cv, rfl, hrv, t3⟩
    have T3 := Lib.hid (T2.out.trans t3 (fun _ _ => id))
    have HG := Lib.hid (good_makeE L)
    obtain ⟨C, hC⟩ : ∃ C, makeE L = C := ⟨_, rfl⟩
    rw [hC] at hrv HG
    have HKC := Lib.hid HG.out.kind
    have HML := Lib.hid (show C.length ≤ 50 from by have := HG.out.len; omega)
    clear t3 hC
    obtain ⟨ca, cc, hcf⟩ := hrv.form
    subst hcf
    obtain ⟨M, hM⟩ : ∃ M, C.length = M := ⟨_, rfl⟩
    rw [hM] at hrv
    rw [hM]
    have HM := Lib.hid hM
    clear hM
    have RV3 := Lib.hid hrv
    clear hrv
    cases hr : rightE C
    · have HR := Lib.hid hr
      clear hr
      go_wp2_with fail
      refine (encode_any w3 _ C RV3.out HKC.out (by have := HML.out; omega)).mono ?_
      rintro r w4 ⟨t4, ⟨_, rfl⟩ | ⟨h, _⟩⟩
      rotate_left
      · rw [HR.out] at h; cases h
      have T4 := Lib.hid (T3.out.trans t4 (fun _ _ => id))
      have RV4 := Lib.hid (RV3.out.turn t4 (fun _ _ => id))
      clear t4
      go_wp2_with fail
      refine (right_any w4 _ C RV4.out (by have := HML.out; omega)).mono ?_
      rintro r w5 ⟨rfl, t5⟩
      rw [HR.out]
      have T5 := Lib.hid (T4.out.trans t5 (fun _ _ => id))
      have RV5 := Lib.hid (RV4.out.turn t5 (fun _ _ => id))
      clear t5
      go_wp2_with fail
      refine (rright_any w5 _ C RV5.out (by have := HML.out; omega)).mono ?_
      rintro r w6 ⟨rfl, t6⟩
      rw [HR.out]
      have T6 := Lib.hid (T5.out.trans t6 (fun _ _ => id))
      have RV6 := Lib.hid (RV5.out.turn t6 (fun _ _ => id))
      clear t6
      go_wp2_with fail
      refine (rright_any w6 _ C RV6.out (by have := HML.out; omega)).mono ?_
      rintro r w7 ⟨rfl, t7⟩
      rw [HR.out]
      have T7 := Lib.hid (T6.out.trans t7 (fun _ _ => id))
      clear t7
      go_wp2_with fail
      go_ret
      exact ⟨by first | rfl | simp, T7.out⟩
    · have HR := Lib.hid hr
      clear hr
      go_wp2_with fail
      refine (encode_any w3 _ C RV3.out HKC.out (by have := HML.out; omega)).mono ?_
      rintro r w4 ⟨t4, ⟨h, _⟩ | ⟨_, pv, rfl, hown⟩⟩
      · rw [HR.out] at h; cases h
      have T4 := Lib.hid (T3.out.trans t4 (fun _ _ => id))
      have RV4 := Lib.hid (RV3.out.turn t4 (fun _ _ => id))
      obtain ⟨BS, hBS⟩ : ∃ BS, bytesE C = BS := ⟨_, rfl⟩
      have HB8 := Lib.hid (show Bytes8 BS from hBS ▸ bytes8_chart C)
      have HBS := Lib.hid hBS
      rw [hBS] at hown
      have HP4 := Lib.hid (Reads.of_owns hown)
      have HOW := Lib.hid hown
      obtain ⟨qa, qc, hqf⟩ := own_slice hown
      subst hqf
      clear t4 hBS hown
      go_wp2_with fail
      refine (right_any w4 _ C RV4.out (by have := HML.out; omega)).mono ?_
      rintro r w5 ⟨rfl, t5⟩
      rw [HR.out]
      have T5 := Lib.hid (T4.out.trans t5 (fun _ _ => id))
      have RV5 := Lib.hid (RV4.out.turn t5 (fun _ _ => id))
      have HO5 := Lib.hid (t5.owns HOW.out (fun _ _ => id))
      clear t5
      go_wp2_with fail
      refine (rright_any w5 _ C RV5.out (by have := HML.out; omega)).mono ?_
      rintro r w6 ⟨rfl, t6⟩
      rw [HR.out]
      have T6 := Lib.hid (T5.out.trans t6 (fun _ _ => id))
      have RV6 := Lib.hid (RV5.out.turn t6 (fun _ _ => id))
      have HO6 := Lib.hid (t6.owns HO5.out (fun _ _ => id))
      clear t6
      go_wp2_with fail
      refine (rright_any w6 _ C RV6.out (by have := HML.out; omega)).mono ?_
      rintro r w7 ⟨rfl, t7⟩
      rw [HR.out]
      have T7 := Lib.hid (T6.out.trans t7 (fun _ _ => id))
      have RV7 := Lib.hid (RV6.out.turn t7 (fun _ _ => id))
      have HO7 := Lib.hid (t7.owns HO6.out (fun _ _ => id))
      clear t7
      go_wp2_with fail
      refine (back_any w7 _ _ C HR.out HKC.out (by rw [HBS.out]; exact HO7.out)).mono ?_
      rintro r w8 ⟨R, rfl, rv8, t8⟩
      have T8 := Lib.hid (T7.out.trans t8 (fun _ _ => id))
      have RV8 := Lib.hid (RV7.out.turn t8 (fun _ _ => id))
      have RD8 := Lib.hid rv8
      have HP8 := Lib.hid (show Src w8 (.slice qa BS.length qc) BS from .inl (Reads.of_owns (t8.owns HO7.out (fun _ _ => id))))
      clear t8 rv8
      rw [HM.out] at RD8
      rw [HM.out]
      obtain ⟨S, hS⟩ : ∃ S, strOfNums BS = S := ⟨_, rfl⟩
      have HS := Lib.hid hS
      have dS : (S.toList == S.toList) = true := by simp
      clear hS
      go_wp2_with fail
      refine wp_region_held_drew (S := fun wq => Src wq (.slice qa BS.length qc) BS) (by kernel_rfl) HP8.out (fun hHeld => ?_)
      refine wpAnyH_take (i := 0) (v := .int .i64 0) rfl (by kernel_rfl) (by kernel_rfl) (by kernel_rfl) (fun _ _ _ h => h) (Or.inl ⟨by rfl, ?yq1⟩) (by assumption) ?rq1
      case yq1 => (intro wq hSw; (try simp only [List.getElem_toArray, List.getElem_cons_zero, List.getElem_cons_succ]); go_simp; (try with_reducible rfl); all_goals (try omega))
      case rq1 =>
      try simp only [Act.put, List.setIfInBounds_toArray, List.set_cons_zero, List.set_cons_succ, List.getElem_toArray, List.getElem_cons_zero, List.getElem_cons_succ]
      refine wpAnyH_take (i := 1) (v := .bool true) rfl (by kernel_rfl) (by kernel_rfl) (by kernel_rfl) (fun _ _ _ h => h) (Or.inl ⟨by rfl, ?yq2⟩) (by assumption) ?rq2
      case yq2 => (intro wq hSw; (try simp only [List.getElem_toArray, List.getElem_cons_zero, List.getElem_cons_succ]); go_simp; (try with_reducible rfl); all_goals (try omega))
      case rq2 =>
      try simp only [Act.put, List.setIfInBounds_toArray, List.set_cons_zero, List.set_cons_succ, List.getElem_toArray, List.getElem_cons_zero, List.getElem_cons_succ]
      refine wpAnyH_take (i := 2) (v := .bool true) rfl (by kernel_rfl) (by kernel_rfl) (by kernel_rfl) (fun _ _ _ h => h) (Or.inl ⟨by rfl, ?yq3⟩) (by assumption) ?rq3
      case yq3 => (intro wq hSw; (try simp only [List.getElem_toArray, List.getElem_cons_zero, List.getElem_cons_succ]); go_simp; (try with_reducible rfl); all_goals (try omega))
      case rq3 =>
      try simp only [Act.put, List.setIfInBounds_toArray, List.set_cons_zero, List.set_cons_succ, List.getElem_toArray, List.getElem_cons_zero, List.getElem_cons_succ]
      refine wpAnyH_take (i := 3) (v := .slice qa BS.length qc) rfl (by kernel_rfl) (by kernel_rfl) (by kernel_rfl) (fun _ _ _ h => h) (Or.inl ⟨by rfl, ?yq4⟩) (by assumption) ?rq4
      case yq4 => (intro wq hSw; (try simp only [List.getElem_toArray, List.getElem_cons_zero, List.getElem_cons_succ]); go_simp; (try with_reducible rfl); all_goals (try omega))
      case rq4 =>
      try simp only [Act.put, List.setIfInBounds_toArray, List.set_cons_zero, List.set_cons_succ, List.getElem_toArray, List.getElem_cons_zero, List.getElem_cons_succ]
      refine wpAnyH_take (i := 4) (v := .string S) rfl (by kernel_rfl) (by kernel_rfl) (by kernel_rfl) (fun _ _ _ h => h) (Or.inl ⟨by rfl, ?yq5⟩) (by assumption) ?rq5
      case yq5 => (intro wq hSw; rw [← HS.out]; exact conv_exec (v := .slice qa BS.length qc) (xs := BS) _ _ _ rfl rfl hSw)
      case rq5 =>
      try simp only [Act.put, List.setIfInBounds_toArray, List.set_cons_zero, List.set_cons_succ, List.getElem_toArray, List.getElem_cons_zero, List.getElem_cons_succ]
      refine wpAnyH_take (i := 5) (v := .slice ca M cc) rfl (by kernel_rfl) (by kernel_rfl) (by kernel_rfl) (fun _ _ _ h => h) (Or.inl ⟨by rfl, ?yq6⟩) (by assumption) ?rq6
      case yq6 => (intro wq hSw; (try simp only [List.getElem_toArray, List.getElem_cons_zero, List.getElem_cons_succ]); go_simp; (try with_reducible rfl); all_goals (try omega))
      case rq6 =>
      try simp only [Act.put, List.setIfInBounds_toArray, List.set_cons_zero, List.set_cons_succ, List.getElem_toArray, List.getElem_cons_zero, List.getElem_cons_succ]
      refine wpAnyH_ready (rs := [6]) (by kernel_rfl) (by simp) ?_
      refine AllReadyH.cons rfl (fun K hK => ?_) AllReadyH.nil
      go_simp
      refine (rbytes_any w8.drew _ C (RV8.out.turn ((Turn.refl (fun _ => False) w8).drew) (fun _ _ => id)) HR.out HKC.out).mono ?_
      rintro r w9 ⟨bv, rfl, ho9, t9⟩
      rw [HBS.out] at ho9
      have T89 := Lib.hid (show Turn (fun _ => False) w8 w9 from (Turn.refl (fun _ => False) w8).drew.trans t9 (fun _ _ => id))
      have HO9 := Lib.hid ho9
      clear t9 ho9
      refine hK.out _ _ (HP8.out.turn T89.out (fun _ _ => id)) (fun _ => ?_)
      clear hK K
      try simp only [Act.put, List.setIfInBounds_toArray, List.set_cons_zero, List.set_cons_succ, List.getElem_toArray, List.getElem_cons_zero, List.getElem_cons_succ]
      refine wpAnyH_ready (rs := [7]) (by kernel_rfl) (by simp) ?_
      refine AllReadyH.cons rfl (fun K hK => ?_) AllReadyH.nil
      rw [if_pos (by rfl)]
      refine wp_exec (v := .string S) (w' := w9) (by rw [← HS.out]; exact conv_exec (v := bv) (xs := BS) _ _ _ rfl rfl (.inl (Reads.of_owns HO9.out))) ?_
      refine hK.out _ _ (HP8.out.turn T89.out (fun _ _ => id)) (fun _ => ?_)
      clear hK K
      try simp only [Act.put, List.setIfInBounds_toArray, List.set_cons_zero, List.set_cons_succ, List.getElem_toArray, List.getElem_cons_zero, List.getElem_cons_succ]
      refine wpAnyH_take (i := 8) (v := .bool true) rfl (by kernel_rfl) (by kernel_rfl) (by kernel_rfl) (fun _ _ _ h => h) (Or.inl ⟨by rfl, ?yq7⟩) (by assumption) ?rq7
      case yq7 => (intro wq hSw; (try simp only [List.getElem_toArray, List.getElem_cons_zero, List.getElem_cons_succ]); go_simp; (try with_reducible rfl); all_goals (try omega))
      case rq7 =>
      try simp only [Act.put, List.setIfInBounds_toArray, List.set_cons_zero, List.set_cons_succ, List.getElem_toArray, List.getElem_cons_zero, List.getElem_cons_succ]
      refine wpAnyH_take (i := 9) (v := .bool true) rfl (by kernel_rfl) (by kernel_rfl) (by kernel_rfl) (fun _ _ _ h => h) (Or.inl ⟨by rfl, ?yq8⟩) (by assumption) ?rq8
      case yq8 => (intro wq hSw; (try simp only [List.getElem_toArray, List.getElem_cons_zero, List.getElem_cons_succ]); go_simp; (try with_reducible rfl); all_goals (try omega))
      case rq8 =>
      try simp only [Act.put, List.setIfInBounds_toArray, List.set_cons_zero, List.set_cons_succ, List.getElem_toArray, List.getElem_cons_zero, List.getElem_cons_succ]
      refine wpAnyH_take (i := 10) (v := .bool true) rfl (by kernel_rfl) (by kernel_rfl) (by kernel_rfl) (fun _ _ _ h => h) (Or.inl ⟨by rfl, ?yq9⟩) (by assumption) ?rq9
      case yq9 => (intro wq hSw; (try simp only [List.getElem_toArray, List.getElem_cons_zero, List.getElem_cons_succ]); go_simp; (try with_reducible rfl); all_goals (try omega))
      case rq9 =>
      try simp only [Act.put, List.setIfInBounds_toArray, List.set_cons_zero, List.set_cons_succ, List.getElem_toArray, List.getElem_cons_zero, List.getElem_cons_succ]
      refine wpAnyH_take (i := 11) (v := .int .i64 0) rfl (by kernel_rfl) (by kernel_rfl) (by kernel_rfl) (fun _ _ _ h => h) (Or.inl ⟨by rfl, ?yq10⟩) (by assumption) ?rq10
      case yq10 => (intro wq hSw; (try simp only [List.getElem_toArray, List.getElem_cons_zero, List.getElem_cons_succ]); go_simp; (try with_reducible rfl); all_goals (try omega))
      case rq10 =>
      try simp only [Act.put, List.setIfInBounds_toArray, List.set_cons_zero, List.set_cons_succ, List.getElem_toArray, List.getElem_cons_zero, List.getElem_cons_succ]
      refine wpAnyH_take (i := 12) (v := .bool true) rfl (by kernel_rfl) (by kernel_rfl) (by kernel_rfl) (fun _ _ _ h => h) (Or.inl ⟨by rfl, ?yq11⟩) (by assumption) ?rq11
      case yq11 => (intro wq hSw; (try simp only [List.getElem_toArray, List.getElem_cons_zero, List.getElem_cons_succ]); go_simp; (try with_reducible rfl); all_goals (try omega))
      case rq11 =>
      try simp only [Act.put, List.setIfInBounds_toArray, List.set_cons_zero, List.set_cons_succ, List.getElem_toArray, List.getElem_cons_zero, List.getElem_cons_succ]
      refine wpAnyH_take (i := 13) (v := .bool true) rfl (by kernel_rfl) (by kernel_rfl) (by kernel_rfl) (fun _ _ _ h => h) (Or.inl ⟨by rfl, ?yq12⟩) (by assumption) ?rq12
      case yq12 => (intro wq hSw; (try simp only [List.getElem_toArray, List.getElem_cons_zero, List.getElem_cons_succ]); go_simp; (try with_reducible rfl); all_goals (try omega))
      case rq12 =>
      try simp only [Act.put, List.setIfInBounds_toArray, List.set_cons_zero, List.set_cons_succ, List.getElem_toArray, List.getElem_cons_zero, List.getElem_cons_succ]
      refine wpAnyH_take (i := 14) (v := .bool true) rfl (by kernel_rfl) (by kernel_rfl) (by kernel_rfl) (fun _ _ _ h => h) (Or.inl ⟨by rfl, ?yq13⟩) (by assumption) ?rq13
      case yq13 => (intro wq hSw; (try simp only [List.getElem_toArray, List.getElem_cons_zero, List.getElem_cons_succ]); go_simp; (try with_reducible rfl); all_goals (try omega))
      case rq13 =>
      try simp only [Act.put, List.setIfInBounds_toArray, List.set_cons_zero, List.set_cons_succ, List.getElem_toArray, List.getElem_cons_zero, List.getElem_cons_succ]
      refine wpAnyH_take (i := 15) (v := .slice ca M cc) rfl (by kernel_rfl) (by kernel_rfl) (by kernel_rfl) (fun _ _ _ h => h) (Or.inl ⟨by rfl, ?yq14⟩) (by assumption) ?rq14
      case yq14 => (intro wq hSw; (try simp only [List.getElem_toArray, List.getElem_cons_zero, List.getElem_cons_succ]); go_simp; (try with_reducible rfl); all_goals (try omega))
      case rq14 =>
      try simp only [Act.put, List.setIfInBounds_toArray, List.set_cons_zero, List.set_cons_succ, List.getElem_toArray, List.getElem_cons_zero, List.getElem_cons_succ]
      refine wpAnyH_take (i := 16) (v := .slice (some ⟨R, 0, none⟩) M M) rfl (by kernel_rfl) (by kernel_rfl) (by kernel_rfl) (fun _ _ _ h => h) (Or.inl ⟨by rfl, ?yq15⟩) (by assumption) ?rq15
      case yq15 => (intro wq hSw; (try simp only [List.getElem_toArray, List.getElem_cons_zero, List.getElem_cons_succ]); go_simp; (try with_reducible rfl); all_goals (try omega))
      case rq15 =>
      try simp only [Act.put, List.setIfInBounds_toArray, List.set_cons_zero, List.set_cons_succ, List.getElem_toArray, List.getElem_cons_zero, List.getElem_cons_succ]
      refine wpAnyH_ready (rs := [17]) (by kernel_rfl) (by simp) ?_
      refine AllReadyH.cons rfl (fun K hK => ?_) AllReadyH.nil
      go_simp
      refine (same_any w9 _ _ C C (RV8.out.turn T89.out (fun _ _ => id)) (RD8.out.turn T89.out (fun _ _ => id)) (by have := HML.out; have := HM.out; omega)).mono ?_
      rintro r w10 ⟨rfl, t10⟩
      rw [decide_eq_true rfl]
      have T810 := Lib.hid (T89.out.trans t10 (fun _ _ => id))
      clear t10
      refine hK.out _ _ (HP8.out.turn T810.out (fun _ _ => id)) (fun _ => ?_)
      clear hK K
      try simp only [Act.put, List.setIfInBounds_toArray, List.set_cons_zero, List.set_cons_succ, List.getElem_toArray, List.getElem_cons_zero, List.getElem_cons_succ]
      refine wpAnyH_take (i := 18) (v := .bool true) rfl (by kernel_rfl) (by kernel_rfl) (by kernel_rfl) (fun _ _ _ h => h) (Or.inl ⟨by rfl, ?yq16⟩) (by assumption) ?rq16
      case yq16 => (intro wq hSw; (try simp only [List.getElem_toArray, List.getElem_cons_zero, List.getElem_cons_succ]); go_simp; (try with_reducible rfl); all_goals (try omega))
      case rq16 =>
      try simp only [Act.put, List.setIfInBounds_toArray, List.set_cons_zero, List.set_cons_succ, List.getElem_toArray, List.getElem_cons_zero, List.getElem_cons_succ]
      refine wpAnyH_take (i := 19) (v := .bool true) rfl (by kernel_rfl) (by kernel_rfl) (by kernel_rfl) (fun _ _ _ h => h) (Or.inl ⟨by rfl, ?yq17⟩) (by assumption) ?rq17
      case yq17 => (intro wq hSw; (try simp only [List.getElem_toArray, List.getElem_cons_zero, List.getElem_cons_succ]); go_simp; (try with_reducible rfl); all_goals (try omega))
      case rq17 =>
      try simp only [Act.put, List.setIfInBounds_toArray, List.set_cons_zero, List.set_cons_succ, List.getElem_toArray, List.getElem_cons_zero, List.getElem_cons_succ]
      refine wpAnyH_done (by kernel_rfl) ?_ _
      clear hHeld
      go_wp2_with fail
      go_ret
      exact ⟨by first | rfl | simp, T8.out.trans T810.out (fun _ _ => id)⟩
  · go_wp2_with fail
    refine (awake10 w).mono ?_
    rintro r w2 ⟨rfl, t2⟩
    have T2 := Lib.hid t2
    have RV2 := Lib.hid (HV0.out.turn t2 (fun _ _ => id))
    clear t2
    obtain ⟨C, hC⟩ : ∃ C, C = C0 := ⟨_, rfl⟩
    rw [← hC] at RV2 HK0 HN
    have HKC := HK0
    have HML := Lib.hid (show C.length ≤ 50 from by rw [HN.out]; exact HML0.out.1)
    have HM := HN
    clear hC
    cases hr : rightE C
    · have HR := Lib.hid hr
      clear hr
      go_wp2_with fail
      refine (encode_any w2 _ C RV2.out HKC.out (by have := HML.out; omega)).mono ?_
      rintro r w4 ⟨t4, ⟨_, rfl⟩ | ⟨h, _⟩⟩
      rotate_left
      · rw [HR.out] at h; cases h
      have T4 := Lib.hid (T2.out.trans t4 (fun _ _ => id))
      have RV4 := Lib.hid (RV2.out.turn t4 (fun _ _ => id))
      clear t4
      go_wp2_with fail
      refine (right_any w4 _ C RV4.out (by have := HML.out; omega)).mono ?_
      rintro r w5 ⟨rfl, t5⟩
      rw [HR.out]
      have T5 := Lib.hid (T4.out.trans t5 (fun _ _ => id))
      have RV5 := Lib.hid (RV4.out.turn t5 (fun _ _ => id))
      clear t5
      go_wp2_with fail
      refine (rright_any w5 _ C RV5.out (by have := HML.out; omega)).mono ?_
      rintro r w6 ⟨rfl, t6⟩
      rw [HR.out]
      have T6 := Lib.hid (T5.out.trans t6 (fun _ _ => id))
      have RV6 := Lib.hid (RV5.out.turn t6 (fun _ _ => id))
      clear t6
      go_wp2_with fail
      refine (rright_any w6 _ C RV6.out (by have := HML.out; omega)).mono ?_
      rintro r w7 ⟨rfl, t7⟩
      rw [HR.out]
      have T7 := Lib.hid (T6.out.trans t7 (fun _ _ => id))
      clear t7
      go_wp2_with fail
      go_ret
      exact ⟨by first | rfl | simp, T7.out⟩
    · have HR := Lib.hid hr
      clear hr
      go_wp2_with fail
      refine (encode_any w2 _ C RV2.out HKC.out (by have := HML.out; omega)).mono ?_
      rintro r w4 ⟨t4, ⟨h, _⟩ | ⟨_, pv, rfl, hown⟩⟩
      · rw [HR.out] at h; cases h
      have T4 := Lib.hid (T2.out.trans t4 (fun _ _ => id))
      have RV4 := Lib.hid (RV2.out.turn t4 (fun _ _ => id))
      obtain ⟨BS, hBS⟩ : ∃ BS, bytesE C = BS := ⟨_, rfl⟩
      have HB8 := Lib.hid (show Bytes8 BS from hBS ▸ bytes8_chart C)
      have HBS := Lib.hid hBS
      rw [hBS] at hown
      have HP4 := Lib.hid (Reads.of_owns hown)
      have HOW := Lib.hid hown
      obtain ⟨qa, qc, hqf⟩ := own_slice hown
      subst hqf
      clear t4 hBS hown
      go_wp2_with fail
      refine (right_any w4 _ C RV4.out (by have := HML.out; omega)).mono ?_
      rintro r w5 ⟨rfl, t5⟩
      rw [HR.out]
      have T5 := Lib.hid (T4.out.trans t5 (fun _ _ => id))
      have RV5 := Lib.hid (RV4.out.turn t5 (fun _ _ => id))
      have HO5 := Lib.hid (t5.owns HOW.out (fun _ _ => id))
      clear t5
      go_wp2_with fail
      refine (rright_any w5 _ C RV5.out (by have := HML.out; omega)).mono ?_
      rintro r w6 ⟨rfl, t6⟩
      rw [HR.out]
      have T6 := Lib.hid (T5.out.trans t6 (fun _ _ => id))
      have RV6 := Lib.hid (RV5.out.turn t6 (fun _ _ => id))
      have HO6 := Lib.hid (t6.owns HO5.out (fun _ _ => id))
      clear t6
      go_wp2_with fail
      refine (rright_any w6 _ C RV6.out (by have := HML.out; omega)).mono ?_
      rintro r w7 ⟨rfl, t7⟩
      rw [HR.out]
      have T7 := Lib.hid (T6.out.trans t7 (fun _ _ => id))
      have RV7 := Lib.hid (RV6.out.turn t7 (fun _ _ => id))
      have HO7 := Lib.hid (t7.owns HO6.out (fun _ _ => id))
      clear t7
      go_wp2_with fail
      refine (back_any w7 _ _ C HR.out HKC.out (by rw [HBS.out]; exact HO7.out)).mono ?_
      rintro r w8 ⟨R, rfl, rv8, t8⟩
      have T8 := Lib.hid (T7.out.trans t8 (fun _ _ => id))
      have RV8 := Lib.hid (RV7.out.turn t8 (fun _ _ => id))
      have RD8 := Lib.hid rv8
      have HP8 := Lib.hid (show Src w8 (.slice qa BS.length qc) BS from .inl (Reads.of_owns (t8.owns HO7.out (fun _ _ => id))))
      clear t8 rv8
      rw [HM.out] at RD8
      rw [HM.out]
      obtain ⟨S, hS⟩ : ∃ S, strOfNums BS = S := ⟨_, rfl⟩
      have HS := Lib.hid hS
      have dS : (S.toList == S.toList) = true := by simp
      clear hS
      go_wp2_with fail
      refine wp_region_held_drew (S := fun wq => Src wq (.slice qa BS.length qc) BS) (by kernel_rfl) HP8.out (fun hHeld => ?_)
      refine wpAnyH_take (i := 0) (v := .int .i64 0) rfl (by kernel_rfl) (by kernel_rfl) (by kernel_rfl) (fun _ _ _ h => h) (Or.inl ⟨by rfl, ?yq18⟩) (by assumption) ?rq18
      case yq18 => (intro wq hSw; (try simp only [List.getElem_toArray, List.getElem_cons_zero, List.getElem_cons_succ]); go_simp; (try with_reducible rfl); all_goals (try omega))
      case rq18 =>
      try simp only [Act.put, List.setIfInBounds_toArray, List.set_cons_zero, List.set_cons_succ, List.getElem_toArray, List.getElem_cons_zero, List.getElem_cons_succ]
      refine wpAnyH_take (i := 1) (v := .bool true) rfl (by kernel_rfl) (by kernel_rfl) (by kernel_rfl) (fun _ _ _ h => h) (Or.inl ⟨by rfl, ?yq19⟩) (by assumption) ?rq19
      case yq19 => (intro wq hSw; (try simp only [List.getElem_toArray, List.getElem_cons_zero, List.getElem_cons_succ]); go_simp; (try with_reducible rfl); all_goals (try omega))
      case rq19 =>
      try simp only [Act.put, List.setIfInBounds_toArray, List.set_cons_zero, List.set_cons_succ, List.getElem_toArray, List.getElem_cons_zero, List.getElem_cons_succ]
      refine wpAnyH_take (i := 2) (v := .bool true) rfl (by kernel_rfl) (by kernel_rfl) (by kernel_rfl) (fun _ _ _ h => h) (Or.inl ⟨by rfl, ?yq20⟩) (by assumption) ?rq20
      case yq20 => (intro wq hSw; (try simp only [List.getElem_toArray, List.getElem_cons_zero, List.getElem_cons_succ]); go_simp; (try with_reducible rfl); all_goals (try omega))
      case rq20 =>
      try simp only [Act.put, List.setIfInBounds_toArray, List.set_cons_zero, List.set_cons_succ, List.getElem_toArray, List.getElem_cons_zero, List.getElem_cons_succ]
      refine wpAnyH_take (i := 3) (v := .slice qa BS.length qc) rfl (by kernel_rfl) (by kernel_rfl) (by kernel_rfl) (fun _ _ _ h => h) (Or.inl ⟨by rfl, ?yq21⟩) (by assumption) ?rq21
      case yq21 => (intro wq hSw; (try simp only [List.getElem_toArray, List.getElem_cons_zero, List.getElem_cons_succ]); go_simp; (try with_reducible rfl); all_goals (try omega))
      case rq21 =>
      try simp only [Act.put, List.setIfInBounds_toArray, List.set_cons_zero, List.set_cons_succ, List.getElem_toArray, List.getElem_cons_zero, List.getElem_cons_succ]
      refine wpAnyH_take (i := 4) (v := .string S) rfl (by kernel_rfl) (by kernel_rfl) (by kernel_rfl) (fun _ _ _ h => h) (Or.inl ⟨by rfl, ?yq22⟩) (by assumption) ?rq22
      case yq22 => (intro wq hSw; rw [← HS.out]; exact conv_exec (v := .slice qa BS.length qc) (xs := BS) _ _ _ rfl rfl hSw)
      case rq22 =>
      try simp only [Act.put, List.setIfInBounds_toArray, List.set_cons_zero, List.set_cons_succ, List.getElem_toArray, List.getElem_cons_zero, List.getElem_cons_succ]
      refine wpAnyH_take (i := 5) (v := .slice c0 n k0) rfl (by kernel_rfl) (by kernel_rfl) (by kernel_rfl) (fun _ _ _ h => h) (Or.inl ⟨by rfl, ?yq23⟩) (by assumption) ?rq23
      case yq23 => (intro wq hSw; (try simp only [List.getElem_toArray, List.getElem_cons_zero, List.getElem_cons_succ]); go_simp; (try with_reducible rfl); all_goals (try omega))
      case rq23 =>
      try simp only [Act.put, List.setIfInBounds_toArray, List.set_cons_zero, List.set_cons_succ, List.getElem_toArray, List.getElem_cons_zero, List.getElem_cons_succ]
      refine wpAnyH_ready (rs := [6]) (by kernel_rfl) (by simp) ?_
      refine AllReadyH.cons rfl (fun K hK => ?_) AllReadyH.nil
      go_simp
      refine (rbytes_any w8.drew _ C (RV8.out.turn ((Turn.refl (fun _ => False) w8).drew) (fun _ _ => id)) HR.out HKC.out).mono ?_
      rintro r w9 ⟨bv, rfl, ho9, t9⟩
      rw [HBS.out] at ho9
      have T89 := Lib.hid (show Turn (fun _ => False) w8 w9 from (Turn.refl (fun _ => False) w8).drew.trans t9 (fun _ _ => id))
      have HO9 := Lib.hid ho9
      clear t9 ho9
      refine hK.out _ _ (HP8.out.turn T89.out (fun _ _ => id)) (fun _ => ?_)
      clear hK K
      try simp only [Act.put, List.setIfInBounds_toArray, List.set_cons_zero, List.set_cons_succ, List.getElem_toArray, List.getElem_cons_zero, List.getElem_cons_succ]
      refine wpAnyH_ready (rs := [7]) (by kernel_rfl) (by simp) ?_
      refine AllReadyH.cons rfl (fun K hK => ?_) AllReadyH.nil
      rw [if_pos (by rfl)]
      refine wp_exec (v := .string S) (w' := w9) (by rw [← HS.out]; exact conv_exec (v := bv) (xs := BS) _ _ _ rfl rfl (.inl (Reads.of_owns HO9.out))) ?_
      refine hK.out _ _ (HP8.out.turn T89.out (fun _ _ => id)) (fun _ => ?_)
      clear hK K
      try simp only [Act.put, List.setIfInBounds_toArray, List.set_cons_zero, List.set_cons_succ, List.getElem_toArray, List.getElem_cons_zero, List.getElem_cons_succ]
      refine wpAnyH_take (i := 8) (v := .bool true) rfl (by kernel_rfl) (by kernel_rfl) (by kernel_rfl) (fun _ _ _ h => h) (Or.inl ⟨by rfl, ?yq24⟩) (by assumption) ?rq24
      case yq24 => (intro wq hSw; (try simp only [List.getElem_toArray, List.getElem_cons_zero, List.getElem_cons_succ]); go_simp; (try with_reducible rfl); all_goals (try omega))
      case rq24 =>
      try simp only [Act.put, List.setIfInBounds_toArray, List.set_cons_zero, List.set_cons_succ, List.getElem_toArray, List.getElem_cons_zero, List.getElem_cons_succ]
      refine wpAnyH_take (i := 9) (v := .bool true) rfl (by kernel_rfl) (by kernel_rfl) (by kernel_rfl) (fun _ _ _ h => h) (Or.inl ⟨by rfl, ?yq25⟩) (by assumption) ?rq25
      case yq25 => (intro wq hSw; (try simp only [List.getElem_toArray, List.getElem_cons_zero, List.getElem_cons_succ]); go_simp; (try with_reducible rfl); all_goals (try omega))
      case rq25 =>
      try simp only [Act.put, List.setIfInBounds_toArray, List.set_cons_zero, List.set_cons_succ, List.getElem_toArray, List.getElem_cons_zero, List.getElem_cons_succ]
      refine wpAnyH_take (i := 10) (v := .bool true) rfl (by kernel_rfl) (by kernel_rfl) (by kernel_rfl) (fun _ _ _ h => h) (Or.inl ⟨by rfl, ?yq26⟩) (by assumption) ?rq26
      case yq26 => (intro wq hSw; (try simp only [List.getElem_toArray, List.getElem_cons_zero, List.getElem_cons_succ]); go_simp; (try with_reducible rfl); all_goals (try omega))
      case rq26 =>
      try simp only [Act.put, List.setIfInBounds_toArray, List.set_cons_zero, List.set_cons_succ, List.getElem_toArray, List.getElem_cons_zero, List.getElem_cons_succ]
      refine wpAnyH_take (i := 11) (v := .int .i64 0) rfl (by kernel_rfl) (by kernel_rfl) (by kernel_rfl) (fun _ _ _ h => h) (Or.inl ⟨by rfl, ?yq27⟩) (by assumption) ?rq27
      case yq27 => (intro wq hSw; (try simp only [List.getElem_toArray, List.getElem_cons_zero, List.getElem_cons_succ]); go_simp; (try with_reducible rfl); all_goals (try omega))
      case rq27 =>
      try simp only [Act.put, List.setIfInBounds_toArray, List.set_cons_zero, List.set_cons_succ, List.getElem_toArray, List.getElem_cons_zero, List.getElem_cons_succ]
      refine wpAnyH_take (i := 12) (v := .bool true) rfl (by kernel_rfl) (by kernel_rfl) (by kernel_rfl) (fun _ _ _ h => h) (Or.inl ⟨by rfl, ?yq28⟩) (by assumption) ?rq28
      case yq28 => (intro wq hSw; (try simp only [List.getElem_toArray, List.getElem_cons_zero, List.getElem_cons_succ]); go_simp; (try with_reducible rfl); all_goals (try omega))
      case rq28 =>
      try simp only [Act.put, List.setIfInBounds_toArray, List.set_cons_zero, List.set_cons_succ, List.getElem_toArray, List.getElem_cons_zero, List.getElem_cons_succ]
      refine wpAnyH_take (i := 13) (v := .bool true) rfl (by kernel_rfl) (by kernel_rfl) (by kernel_rfl) (fun _ _ _ h => h) (Or.inl ⟨by rfl, ?yq29⟩) (by assumption) ?rq29
      case yq29 => (intro wq hSw; (try simp only [List.getElem_toArray, List.getElem_cons_zero, List.getElem_cons_succ]); go_simp; (try with_reducible rfl); all_goals (try omega))
      case rq29 =>
      try simp only [Act.put, List.setIfInBounds_toArray, List.set_cons_zero, List.set_cons_succ, List.getElem_toArray, List.getElem_cons_zero, List.getElem_cons_succ]
      refine wpAnyH_take (i := 14) (v := .bool true) rfl (by kernel_rfl) (by kernel_rfl) (by kernel_rfl) (fun _ _ _ h => h) (Or.inl ⟨by rfl, ?yq30⟩) (by assumption) ?rq30
      case yq30 => (intro wq hSw; (try simp only [List.getElem_toArray, List.getElem_cons_zero, List.getElem_cons_succ]); go_simp; (try with_reducible rfl); all_goals (try omega))
      case rq30 =>
      try simp only [Act.put, List.setIfInBounds_toArray, List.set_cons_zero, List.set_cons_succ, List.getElem_toArray, List.getElem_cons_zero, List.getElem_cons_succ]
      refine wpAnyH_take (i := 15) (v := .slice c0 n k0) rfl (by kernel_rfl) (by kernel_rfl) (by kernel_rfl) (fun _ _ _ h => h) (Or.inl ⟨by rfl, ?yq31⟩) (by assumption) ?rq31
      case yq31 => (intro wq hSw; (try simp only [List.getElem_toArray, List.getElem_cons_zero, List.getElem_cons_succ]); go_simp; (try with_reducible rfl); all_goals (try omega))
      case rq31 =>
      try simp only [Act.put, List.setIfInBounds_toArray, List.set_cons_zero, List.set_cons_succ, List.getElem_toArray, List.getElem_cons_zero, List.getElem_cons_succ]
      refine wpAnyH_take (i := 16) (v := .slice (some ⟨R, 0, none⟩) n n) rfl (by kernel_rfl) (by kernel_rfl) (by kernel_rfl) (fun _ _ _ h => h) (Or.inl ⟨by rfl, ?yq32⟩) (by assumption) ?rq32
      case yq32 => (intro wq hSw; (try simp only [List.getElem_toArray, List.getElem_cons_zero, List.getElem_cons_succ]); go_simp; (try with_reducible rfl); all_goals (try omega))
      case rq32 =>
      try simp only [Act.put, List.setIfInBounds_toArray, List.set_cons_zero, List.set_cons_succ, List.getElem_toArray, List.getElem_cons_zero, List.getElem_cons_succ]
      refine wpAnyH_ready (rs := [17]) (by kernel_rfl) (by simp) ?_
      refine AllReadyH.cons rfl (fun K hK => ?_) AllReadyH.nil
      go_simp
      refine (same_any w9 _ _ C C (RV8.out.turn T89.out (fun _ _ => id)) (RD8.out.turn T89.out (fun _ _ => id)) (by have := HML.out; have := HM.out; omega)).mono ?_
      rintro r w10 ⟨rfl, t10⟩
      rw [decide_eq_true rfl]
      have T810 := Lib.hid (T89.out.trans t10 (fun _ _ => id))
      clear t10
      refine hK.out _ _ (HP8.out.turn T810.out (fun _ _ => id)) (fun _ => ?_)
      clear hK K
      try simp only [Act.put, List.setIfInBounds_toArray, List.set_cons_zero, List.set_cons_succ, List.getElem_toArray, List.getElem_cons_zero, List.getElem_cons_succ]
      refine wpAnyH_take (i := 18) (v := .bool true) rfl (by kernel_rfl) (by kernel_rfl) (by kernel_rfl) (fun _ _ _ h => h) (Or.inl ⟨by rfl, ?yq33⟩) (by assumption) ?rq33
      case yq33 => (intro wq hSw; (try simp only [List.getElem_toArray, List.getElem_cons_zero, List.getElem_cons_succ]); go_simp; (try with_reducible rfl); all_goals (try omega))
      case rq33 =>
      try simp only [Act.put, List.setIfInBounds_toArray, List.set_cons_zero, List.set_cons_succ, List.getElem_toArray, List.getElem_cons_zero, List.getElem_cons_succ]
      refine wpAnyH_take (i := 19) (v := .bool true) rfl (by kernel_rfl) (by kernel_rfl) (by kernel_rfl) (fun _ _ _ h => h) (Or.inl ⟨by rfl, ?yq34⟩) (by assumption) ?rq34
      case yq34 => (intro wq hSw; (try simp only [List.getElem_toArray, List.getElem_cons_zero, List.getElem_cons_succ]); go_simp; (try with_reducible rfl); all_goals (try omega))
      case rq34 =>
      try simp only [Act.put, List.setIfInBounds_toArray, List.set_cons_zero, List.set_cons_succ, List.getElem_toArray, List.getElem_cons_zero, List.getElem_cons_succ]
      refine wpAnyH_done (by kernel_rfl) ?_ _
      clear hHeld
      go_wp2_with fail
      go_ret
      exact ⟨by first | rfl | simp, T8.out.trans T810.out (fun _ _ => id)⟩
end Go.Proofs.Ytokjlhpkjebnkaa
