/- Own contracts: unlike charts have unlike bytes. No statement is proved here. -/
import Derived.Test.YtokjlhpkjebnkaaWby
namespace Go.Proofs.Ytokjlhpkjebnkaa
set_option maxRecDepth 100000
open Go.RowKit
set_option linter.unusedVariables false
set_option linter.unusedSimpArgs false


theorem dec_count {k : Nat} (hk : 0 < k) (hk2 : k < 9223372036854775808) : decE ([67, 49] ++ numB k) = none := by
  cases h : decE ([67, 49] ++ numB k) with
  | none => rfl
  | some c =>
    exfalso
    have hb : Bytes8 ([67, 49] ++ numB k) := bytes8_append (fun x hx => by simp only [List.mem_cons, List.not_mem_nil, or_false] at hx; omega) (numB_bytes8 k)
    obtain ⟨h1, h2, _⟩ := decE_some hb h
    have h3 : numB k = numB c.length ++ elemsB 0 c := by
      have h4 : [67, 49] ++ numB k = [67, 49] ++ (numB c.length ++ elemsB 0 c) := by rw [h1, bytesE, List.append_assoc]
      exact List.append_cancel_left h4
    have hc : c.length ≤ 40 := (right_iff.1 h2).1
    have s1 := scan_num 9 k [] (numB_small9 k hk2)
    have s2 := scan_num 9 c.length (elemsB 0 c) (numB_small9 c.length (by omega))
    rw [List.append_nil, h3, s2] at s1
    injection s1 with s1
    injection s1 with s3 s4
    have hne : c ≠ [] := fun e => by rw [e] at s3; simp at s3; omega
    obtain ⟨x, l, rfl⟩ := List.exists_cons_of_ne_nil hne
    have h5 : (elemsB 0 (x :: l)).length = 0 := by rw [s4]; rfl
    have h6 : 0 < (elemsB 0 (x :: l)).length := by
      simp only [elemsB, elemB, List.length_append]
      have := numB_pos (x.id - 0).toNat
      omega
    omega
set_option maxHeartbeats 8000000 in
theorem wapart_law (w : World) (v0 v1 : Value) (L1 L2 : List A4) (nn : Int) (h0 : ActsV w v0 L1) (h1 : ActsV w v1 L2) (hnn : -9223372036854775808 ≤ nn ∧ nn < 9223372036854775808) : Calls Try.prog 10 #[v0, v1, .int .i64 nn] w fun r w' => r = .returned (.bool true) ∧ Turn (fun _ => False) w w' := by
  obtain ⟨c0, k0, rfl⟩ := h0.form
  obtain ⟨c1, k1, rfl⟩ := h1.form
  obtain ⟨n, hn⟩ : ∃ n, L1.length = n := ⟨_, rfl⟩
  obtain ⟨m, hm⟩ : ∃ m, L2.length = m := ⟨_, rfl⟩
  rw [hn] at h0
  rw [hm] at h1
  rw [hn, hm]
  have HN := Lib.hid hn
  have HMM := Lib.hid hm
  have HV0 := Lib.hid h0
  have HV1 := Lib.hid h1
  clear hn hm h0 h1
  by_cases hbig : 24 < n ∨ 24 < m
  · have dd : decide ((24 : Int) < (n : Int)) = true ∨ (decide ((24 : Int) < (n : Int)) = false ∧ decide ((24 : Int) < (m : Int)) = true) := by
      by_cases h : 24 < n
      · exact .inl (decide_eq_true (by omega))
      · exact .inr ⟨decide_eq_false (by omega), decide_eq_true (by omega)⟩
    rcases dd with d1 | ⟨d1, d2⟩
    all_goals
      go_enter Try.func10, Try.ntmps10
      go_wp2_with fail
      refine (awake10 w).mono ?_
      rintro r w2 ⟨rfl, t2⟩
      have T2 := Lib.hid t2
      clear t2
      go_wp2_with fail
      refine (awake10 w2).mono ?_
      rintro r w3 ⟨rfl, t3⟩
      have T3 := Lib.hid (T2.out.trans t3 (fun _ _ => id))
      clear t3
      go_wp2_with fail
      go_ret
      exact ⟨by first | rfl | simp, T3.out⟩
  have d1 : decide ((24 : Int) < (n : Int)) = false := decide_eq_false (by omega)
  have d2 : decide ((24 : Int) < (m : Int)) = false := decide_eq_false (by omega)
  have HML0 := Lib.hid (show n ≤ 24 ∧ m ≤ 24 from by omega)
  clear hbig
  go_enter Try.func10, Try.ntmps10
  go_wp2_with fail
  refine (awake10 w).mono ?_
  rintro r w2 ⟨rfl, t2⟩
  have T2 := Lib.hid t2
  clear t2
  go_wp2_with fail
  refine (make_any w2 _ L1 (HV0.out.turn T2.out) (by rw [HN.out]; have := HML0.out; omega)).mono ?_
  rintro r w3 ⟨cv, rfl, hrv, t3⟩
  have T3 := Lib.hid (T2.out.trans t3 (fun _ _ => id))
  have HGX := Lib.hid (good_makeE L1)
  obtain ⟨X, hC⟩ : ∃ C, makeE L1 = C := ⟨_, rfl⟩
  rw [hC] at hrv HGX
  obtain ⟨aX, qX, hcf⟩ := hrv.form
  subst hcf
  obtain ⟨MX, hM⟩ : ∃ M, X.length = M := ⟨_, rfl⟩
  rw [hM] at hrv
  rw [hM]
  have HMX := Lib.hid hM
  have RVX := Lib.hid hrv
  clear t3 hC hM hrv
  go_wp2_with fail
  refine (make_any w3 _ L2 (HV1.out.turn T3.out) (by rw [HMM.out]; have := HML0.out; omega)).mono ?_
  rintro r w4 ⟨cv, rfl, hrv, t3⟩
  have T4 := Lib.hid (T3.out.trans t3 (fun _ _ => id))
  have HGY := Lib.hid (good_makeE L2)
  obtain ⟨Y, hC⟩ : ∃ C, makeE L2 = C := ⟨_, rfl⟩
  rw [hC] at hrv HGY
  obtain ⟨aY, qY, hcf⟩ := hrv.form
  subst hcf
  obtain ⟨MY, hM⟩ : ∃ M, Y.length = M := ⟨_, rfl⟩
  rw [hM] at hrv
  rw [hM]
  have HMY := Lib.hid hM
  have RVY := Lib.hid hrv
  have RVX := Lib.hid (RVX.out.turn t3 (fun _ _ => id))
  clear t3 hC hM hrv
  go_wp2_with fail
  refine (encode_any w4 _ X RVX.out HGX.out.kind (by have := HGX.out.len; omega)).mono ?_
  rintro r w5 ⟨t4, ⟨h, _⟩ | ⟨_, pv, rfl, hown⟩⟩
  · rw [HGX.out.right] at h; cases h
  have T5 := Lib.hid (T4.out.trans t4 (fun _ _ => id))
  obtain ⟨BX, hBS⟩ : ∃ BS, bytesE X = BS := ⟨_, rfl⟩
  have HB8X := Lib.hid (show Bytes8 BX from hBS ▸ bytes8_chart X)
  have HBSX := Lib.hid hBS
  rw [hBS] at hown
  obtain ⟨gX, pX, hqf⟩ := own_slice hown
  subst hqf
  have HPX := Lib.hid (show Src w5 (.slice gX BX.length pX) BX from .inl (Reads.of_owns hown))
  have RVX := Lib.hid (RVX.out.turn t4 (fun _ _ => id))
  have RVY := Lib.hid (RVY.out.turn t4 (fun _ _ => id))
  clear t4 hBS hown
  go_wp2_with fail
  refine (encode_any w5 _ Y RVY.out HGY.out.kind (by have := HGY.out.len; omega)).mono ?_
  rintro r w6 ⟨t4, ⟨h, _⟩ | ⟨_, pv, rfl, hown⟩⟩
  · rw [HGY.out.right] at h; cases h
  have T6 := Lib.hid (T5.out.trans t4 (fun _ _ => id))
  obtain ⟨BY, hBS⟩ : ∃ BS, bytesE Y = BS := ⟨_, rfl⟩
  have HB8Y := Lib.hid (show Bytes8 BY from hBS ▸ bytes8_chart Y)
  have HBSY := Lib.hid hBS
  rw [hBS] at hown
  obtain ⟨gY, pY, hqf⟩ := own_slice hown
  subst hqf
  have HPY := Lib.hid (show Src w6 (.slice gY BY.length pY) BY from .inl (Reads.of_owns hown))
  have RVX := Lib.hid (RVX.out.turn t4 (fun _ _ => id))
  have RVY := Lib.hid (RVY.out.turn t4 (fun _ _ => id))
  have HPX := Lib.hid (HPX.out.turn t4 (fun _ _ => id))
  clear t4 hBS hown
  go_wp2_with (with_reducible (show wpList _ _ _ (Oper.mk (some 44) _ _ _ _ _ :: _) _ _); refine still ?_)
  refine list_exec rfl _ _ (exec_mark _ _ (.tmp 43) rfl w6 rfl) ?_
  have hms := mark_src w6
  have tm : Turn (fun _ => False) w6 (w6.alloc (.cells #[.int .u8 67, .int .u8 49] 5 (2, 3))) := (Turn.refl _ w6).alloc _
  obtain ⟨wm, hwm⟩ : ∃ wm, w6.alloc (.cells #[.int .u8 67, .int .u8 49] 5 (2, 3)) = wm := ⟨_, rfl⟩
  rw [hwm] at hms tm
  rw [hwm]
  obtain ⟨G0, hG0⟩ : ∃ G0, w6.heap.size = G0 := ⟨_, rfl⟩
  rw [hG0] at hms
  rw [hG0]
  have HMS := Lib.hid hms
  have HTM := Lib.hid tm
  clear hms tm hwm hG0
  go_wp2_with fail
  obtain ⟨k, hk, hkb⟩ : ∃ k : Nat, wrap64 (1 + (wrap64 (IntKind.u64.wrap nn / 2)).tmod 1099511627776) = (k : Int) ∧ 0 < k ∧ k < 2000000000000 := by
      have h0 : 0 ≤ IntKind.u64.wrap nn ∧ IntKind.u64.wrap nn < 18446744073709551616 := by rw [IntKind.wrap_u64]; omega
      obtain ⟨q, hq⟩ : ∃ q, IntKind.u64.wrap nn = q := ⟨_, rfl⟩
      rw [hq] at h0 ⊢
      have h1 : wrap64 (q / 2) = q / 2 := by unfold wrap64; omega
      rw [h1, Int.tmod_eq_emod_of_nonneg (by omega)]
      have h2 : wrap64 (1 + q / 2 % 1099511627776) = 1 + q / 2 % 1099511627776 := by unfold wrap64; omega
      rw [h2]
      exact ⟨(1 + q / 2 % 1099511627776).toNat, by omega, by omega, by omega⟩
  rw [hk]
  have HKB := Lib.hid hkb
  clear hk hkb
  refine (ref_num_at (k : Int) k rfl wm (by have := HKB.out; omega)).mono ?_
  rintro r w7 ⟨vn, rfl, hon, t7⟩
  have hsrc : Src w7 (.slice (some ⟨G0, 0, none⟩) 2 2) [67, 49] := HMS.out.turn t7 (fun _ _ => id)
  obtain ⟨va, wa, hra, hoa, ta⟩ := app_mark w7 w.heap.size _ vn (numB k) hsrc ⟨_, rfl⟩ (.inl (Reads.of_owns hon)) (numB_pos k) (by have := T6.out.size; have := HTM.out.size; have := t7.size; omega) (by have := numB_small9 k (by have := HKB.out; omega); omega)
  have HRA := Lib.hid hra
  have HOA := Lib.hid hoa
  have TA := Lib.hid ((HTM.out.trans t7 (fun _ _ => id)).trans ta (fun _ _ => id))
  clear hra hoa ta t7 hon hsrc
  go_wp2_with (with_reducible (show wpList _ _ _ (Oper.mk (some 52) _ _ _ _ _ :: _) _ _); refine still ?_)
  refine list_exec rfl _ _ (exec_append _ _ (.tmp 44) (.tmp 51) 49 rfl _ _ _ _ _ rfl rfl HRA.out) ?_
  go_wp2_with fail
  refine (decode_any wa va ([67, 49] ++ numB k) (.inl (Reads.of_owns HOA.out)) (by have := numB_small9 k (by have := HKB.out; omega); simp only [List.length_append, List.length_cons, List.length_nil]; omega) (bytes8_append (fun x hx => by simp only [List.mem_cons, List.not_mem_nil, or_false] at hx; omega) (numB_bytes8 k))).mono ?_
  rintro r w8 ⟨t8, ⟨_, rfl⟩ | ⟨c, R, h, _⟩⟩
  rotate_left
  · rw [dec_count HKB.out.1 (by have := HKB.out; omega)] at h; cases h
  have T68 := Lib.hid (TA.out.trans t8 (fun _ _ => id))
  have HPX := Lib.hid (HPX.out.turn T68.out (fun _ _ => id))
  have HPY := Lib.hid (HPY.out.turn T68.out (fun _ _ => id))
  have RVX := Lib.hid (RVX.out.turn T68.out (fun _ _ => id))
  have RVY := Lib.hid (RVY.out.turn T68.out (fun _ _ => id))
  have T8 := Lib.hid (T6.out.trans T68.out (fun _ _ => id))
  obtain ⟨SX, hSX⟩ : ∃ S, strOfNums BX = S := ⟨_, rfl⟩
  obtain ⟨SY, hSY⟩ : ∃ S, strOfNums BY = S := ⟨_, rfl⟩
  have HSX := Lib.hid hSX
  have HSY := Lib.hid hSY
  have hd : (SX.toList == SY.toList) = decide (X = Y) := by
    rw [← hSX, ← hSY, str_same HB8X.out HB8Y.out]
    have : BX = BY ↔ X = Y := ⟨fun h => bytesE_inj HGX.out.right HGY.out.right HGX.out.kind HGY.out.kind (by rw [HBSX.out, HBSY.out, h]), fun h => by rw [← HBSX.out, ← HBSY.out, h]⟩
    simp [this]
  clear t8 hSX hSY
  obtain ⟨D, hD⟩ : ∃ D, decide (X = Y) = D := ⟨_, rfl⟩
  rw [hD] at hd
  have HD := Lib.hid hD
  clear hD
  go_wp2_with fail
  cases D
  · refine wp_region_held_drew (S := fun wq => Src wq (.slice gX BX.length pX) BX ∧ Src wq (.slice gY BY.length pY) BY) (by kernel_rfl) ⟨HPX.out, HPY.out⟩ (fun hHeld => ?_)
    refine wpAnyH_take (i := 0) (v := .slice gX BX.length pX) rfl (by kernel_rfl) (by kernel_rfl) (by kernel_rfl) (fun _ _ _ h => h) (Or.inl ⟨by rfl, ?yq1⟩) (by assumption) ?rq1
    case yq1 => (intro wq hSw; (try simp only [List.getElem_toArray, List.getElem_cons_zero, List.getElem_cons_succ]); go_simp; (try with_reducible rfl); all_goals (try omega))
    case rq1 =>
    try simp only [Act.put, List.setIfInBounds_toArray, List.set_cons_zero, List.set_cons_succ, List.getElem_toArray, List.getElem_cons_zero, List.getElem_cons_succ]
    refine wpAnyH_take (i := 1) (v := .string SX) rfl (by kernel_rfl) (by kernel_rfl) (by kernel_rfl) (fun _ _ _ h => h) (Or.inl ⟨by rfl, ?yq2⟩) (by assumption) ?rq2
    case yq2 => (intro wq hSw; rw [← HSX.out]; exact conv_exec (v := .slice gX BX.length pX) (xs := BX) _ _ _ rfl rfl hSw.1)
    case rq2 =>
    try simp only [Act.put, List.setIfInBounds_toArray, List.set_cons_zero, List.set_cons_succ, List.getElem_toArray, List.getElem_cons_zero, List.getElem_cons_succ]
    refine wpAnyH_take (i := 2) (v := .slice gY BY.length pY) rfl (by kernel_rfl) (by kernel_rfl) (by kernel_rfl) (fun _ _ _ h => h) (Or.inl ⟨by rfl, ?yq3⟩) (by assumption) ?rq3
    case yq3 => (intro wq hSw; (try simp only [List.getElem_toArray, List.getElem_cons_zero, List.getElem_cons_succ]); go_simp; (try with_reducible rfl); all_goals (try omega))
    case rq3 =>
    try simp only [Act.put, List.setIfInBounds_toArray, List.set_cons_zero, List.set_cons_succ, List.getElem_toArray, List.getElem_cons_zero, List.getElem_cons_succ]
    refine wpAnyH_take (i := 3) (v := .string SY) rfl (by kernel_rfl) (by kernel_rfl) (by kernel_rfl) (fun _ _ _ h => h) (Or.inl ⟨by rfl, ?yq4⟩) (by assumption) ?rq4
    case yq4 => (intro wq hSw; rw [← HSY.out]; exact conv_exec (v := .slice gY BY.length pY) (xs := BY) _ _ _ rfl rfl hSw.2)
    case rq4 =>
    try simp only [Act.put, List.setIfInBounds_toArray, List.set_cons_zero, List.set_cons_succ, List.getElem_toArray, List.getElem_cons_zero, List.getElem_cons_succ]
    refine wpAnyH_take (i := 4) (v := .bool false) rfl (by kernel_rfl) (by kernel_rfl) (by kernel_rfl) (fun _ _ _ h => h) (Or.inl ⟨by rfl, ?yq5⟩) (by assumption) ?rq5
    case yq5 => (intro wq hSw; (try simp only [List.getElem_toArray, List.getElem_cons_zero, List.getElem_cons_succ]); go_simp; (try with_reducible rfl); all_goals (try omega))
    case rq5 =>
    try simp only [Act.put, List.setIfInBounds_toArray, List.set_cons_zero, List.set_cons_succ, List.getElem_toArray, List.getElem_cons_zero, List.getElem_cons_succ]
    refine wpAnyH_take (i := 5) (v := .slice aX MX qX) rfl (by kernel_rfl) (by kernel_rfl) (by kernel_rfl) (fun _ _ _ h => h) (Or.inl ⟨by rfl, ?yq6⟩) (by assumption) ?rq6
    case yq6 => (intro wq hSw; (try simp only [List.getElem_toArray, List.getElem_cons_zero, List.getElem_cons_succ]); go_simp; (try with_reducible rfl); all_goals (try omega))
    case rq6 =>
    try simp only [Act.put, List.setIfInBounds_toArray, List.set_cons_zero, List.set_cons_succ, List.getElem_toArray, List.getElem_cons_zero, List.getElem_cons_succ]
    refine wpAnyH_take (i := 6) (v := .slice aY MY qY) rfl (by kernel_rfl) (by kernel_rfl) (by kernel_rfl) (fun _ _ _ h => h) (Or.inl ⟨by rfl, ?yq7⟩) (by assumption) ?rq7
    case yq7 => (intro wq hSw; (try simp only [List.getElem_toArray, List.getElem_cons_zero, List.getElem_cons_succ]); go_simp; (try with_reducible rfl); all_goals (try omega))
    case rq7 =>
    try simp only [Act.put, List.setIfInBounds_toArray, List.set_cons_zero, List.set_cons_succ, List.getElem_toArray, List.getElem_cons_zero, List.getElem_cons_succ]
    refine wpAnyH_ready (rs := [7]) (by kernel_rfl) (by simp) ?_
    refine AllReadyH.cons rfl (fun K hK => ?_) AllReadyH.nil
    go_simp
    refine (same_any w8.drew _ _ X Y (RVX.out.turn ((Turn.refl (fun _ => False) w8).drew) (fun _ _ => id)) (RVY.out.turn ((Turn.refl (fun _ => False) w8).drew) (fun _ _ => id)) (by have := HGX.out.len; have := HGY.out.len; omega)).mono ?_
    rintro r w9 ⟨rfl, t9⟩
    rw [HD.out]
    have T89 := Lib.hid (show Turn (fun _ => False) w8 w9 from (Turn.refl (fun _ => False) w8).drew.trans t9 (fun _ _ => id))
    clear t9
    refine hK.out _ _ ⟨HPX.out.turn T89.out (fun _ _ => id), HPY.out.turn T89.out (fun _ _ => id)⟩ (fun _ => ?_)
    clear hK K
    try simp only [Act.put, List.setIfInBounds_toArray, List.set_cons_zero, List.set_cons_succ, List.getElem_toArray, List.getElem_cons_zero, List.getElem_cons_succ]
    refine wpAnyH_take (i := 8) (v := .bool true) rfl (by kernel_rfl) (by kernel_rfl) (by kernel_rfl) (fun _ _ _ h => h) (Or.inl ⟨by rfl, ?yq8⟩) (by assumption) ?rq8
    case yq8 => (intro wq hSw; (try simp only [List.getElem_toArray, List.getElem_cons_zero, List.getElem_cons_succ]); go_simp; (try with_reducible rfl); all_goals (try omega))
    case rq8 =>
    try simp only [Act.put, List.setIfInBounds_toArray, List.set_cons_zero, List.set_cons_succ, List.getElem_toArray, List.getElem_cons_zero, List.getElem_cons_succ]
    refine wpAnyH_take (i := 9) (v := .bool true) rfl (by kernel_rfl) (by kernel_rfl) (by kernel_rfl) (fun _ _ _ h => h) (Or.inl ⟨by rfl, ?yq9⟩) (by assumption) ?rq9
    case yq9 => (intro wq hSw; (try simp only [List.getElem_toArray, List.getElem_cons_zero, List.getElem_cons_succ]); go_simp; (try with_reducible rfl); all_goals (try omega))
    case rq9 =>
    try simp only [Act.put, List.setIfInBounds_toArray, List.set_cons_zero, List.set_cons_succ, List.getElem_toArray, List.getElem_cons_zero, List.getElem_cons_succ]
    refine wpAnyH_take (i := 10) (v := .int .i64 7) rfl (by kernel_rfl) (by kernel_rfl) (by kernel_rfl) (fun _ _ _ h => h) (Or.inl ⟨by rfl, ?yq10⟩) (by assumption) ?rq10
    case yq10 => (intro wq hSw; (try simp only [List.getElem_toArray, List.getElem_cons_zero, List.getElem_cons_succ]); go_simp; (try with_reducible rfl); all_goals (try omega))
    case rq10 =>
    try simp only [Act.put, List.setIfInBounds_toArray, List.set_cons_zero, List.set_cons_succ, List.getElem_toArray, List.getElem_cons_zero, List.getElem_cons_succ]
    refine wpAnyH_take (i := 11) (v := .bool true) rfl (by kernel_rfl) (by kernel_rfl) (by kernel_rfl) (fun _ _ _ h => h) (Or.inl ⟨by rfl, ?yq11⟩) (by assumption) ?rq11
    case yq11 => (intro wq hSw; (try simp only [List.getElem_toArray, List.getElem_cons_zero, List.getElem_cons_succ]); go_simp; (try with_reducible rfl); all_goals (try omega))
    case rq11 =>
    try simp only [Act.put, List.setIfInBounds_toArray, List.set_cons_zero, List.set_cons_succ, List.getElem_toArray, List.getElem_cons_zero, List.getElem_cons_succ]
    refine wpAnyH_take (i := 12) (v := .bool true) rfl (by kernel_rfl) (by kernel_rfl) (by kernel_rfl) (fun _ _ _ h => h) (Or.inl ⟨by rfl, ?yq12⟩) (by assumption) ?rq12
    case yq12 => (intro wq hSw; (try simp only [List.getElem_toArray, List.getElem_cons_zero, List.getElem_cons_succ]); go_simp; (try with_reducible rfl); all_goals (try omega))
    case rq12 =>
    try simp only [Act.put, List.setIfInBounds_toArray, List.set_cons_zero, List.set_cons_succ, List.getElem_toArray, List.getElem_cons_zero, List.getElem_cons_succ]
    refine wpAnyH_take (i := 13) (v := .bool true) rfl (by kernel_rfl) (by kernel_rfl) (by kernel_rfl) (fun _ _ _ h => h) (Or.inl ⟨by rfl, ?yq13⟩) (by assumption) ?rq13
    case yq13 => (intro wq hSw; (try simp only [List.getElem_toArray, List.getElem_cons_zero, List.getElem_cons_succ]); go_simp; (try with_reducible rfl); all_goals (try omega))
    case rq13 =>
    try simp only [Act.put, List.setIfInBounds_toArray, List.set_cons_zero, List.set_cons_succ, List.getElem_toArray, List.getElem_cons_zero, List.getElem_cons_succ]
    refine wpAnyH_done (by kernel_rfl) ?_ _
    clear hHeld
    go_wp2_with fail
    go_ret
    exact ⟨by first | rfl | simp, T8.out.trans T89.out (fun _ _ => id)⟩
  · refine wp_region_held_drew (S := fun wq => Src wq (.slice gX BX.length pX) BX ∧ Src wq (.slice gY BY.length pY) BY) (by kernel_rfl) ⟨HPX.out, HPY.out⟩ (fun hHeld => ?_)
    refine wpAnyH_take (i := 0) (v := .slice gX BX.length pX) rfl (by kernel_rfl) (by kernel_rfl) (by kernel_rfl) (fun _ _ _ h => h) (Or.inl ⟨by rfl, ?yq14⟩) (by assumption) ?rq14
    case yq14 => (intro wq hSw; (try simp only [List.getElem_toArray, List.getElem_cons_zero, List.getElem_cons_succ]); go_simp; (try with_reducible rfl); all_goals (try omega))
    case rq14 =>
    try simp only [Act.put, List.setIfInBounds_toArray, List.set_cons_zero, List.set_cons_succ, List.getElem_toArray, List.getElem_cons_zero, List.getElem_cons_succ]
    refine wpAnyH_take (i := 1) (v := .string SX) rfl (by kernel_rfl) (by kernel_rfl) (by kernel_rfl) (fun _ _ _ h => h) (Or.inl ⟨by rfl, ?yq15⟩) (by assumption) ?rq15
    case yq15 => (intro wq hSw; rw [← HSX.out]; exact conv_exec (v := .slice gX BX.length pX) (xs := BX) _ _ _ rfl rfl hSw.1)
    case rq15 =>
    try simp only [Act.put, List.setIfInBounds_toArray, List.set_cons_zero, List.set_cons_succ, List.getElem_toArray, List.getElem_cons_zero, List.getElem_cons_succ]
    refine wpAnyH_take (i := 2) (v := .slice gY BY.length pY) rfl (by kernel_rfl) (by kernel_rfl) (by kernel_rfl) (fun _ _ _ h => h) (Or.inl ⟨by rfl, ?yq16⟩) (by assumption) ?rq16
    case yq16 => (intro wq hSw; (try simp only [List.getElem_toArray, List.getElem_cons_zero, List.getElem_cons_succ]); go_simp; (try with_reducible rfl); all_goals (try omega))
    case rq16 =>
    try simp only [Act.put, List.setIfInBounds_toArray, List.set_cons_zero, List.set_cons_succ, List.getElem_toArray, List.getElem_cons_zero, List.getElem_cons_succ]
    refine wpAnyH_take (i := 3) (v := .string SY) rfl (by kernel_rfl) (by kernel_rfl) (by kernel_rfl) (fun _ _ _ h => h) (Or.inl ⟨by rfl, ?yq17⟩) (by assumption) ?rq17
    case yq17 => (intro wq hSw; rw [← HSY.out]; exact conv_exec (v := .slice gY BY.length pY) (xs := BY) _ _ _ rfl rfl hSw.2)
    case rq17 =>
    try simp only [Act.put, List.setIfInBounds_toArray, List.set_cons_zero, List.set_cons_succ, List.getElem_toArray, List.getElem_cons_zero, List.getElem_cons_succ]
    refine wpAnyH_take (i := 4) (v := .bool true) rfl (by kernel_rfl) (by kernel_rfl) (by kernel_rfl) (fun _ _ _ h => h) (Or.inl ⟨by rfl, ?yq18⟩) (by assumption) ?rq18
    case yq18 => (intro wq hSw; (try simp only [List.getElem_toArray, List.getElem_cons_zero, List.getElem_cons_succ]); go_simp; (try with_reducible rfl); all_goals (try omega))
    case rq18 =>
    try simp only [Act.put, List.setIfInBounds_toArray, List.set_cons_zero, List.set_cons_succ, List.getElem_toArray, List.getElem_cons_zero, List.getElem_cons_succ]
    refine wpAnyH_take (i := 5) (v := .slice aX MX qX) rfl (by kernel_rfl) (by kernel_rfl) (by kernel_rfl) (fun _ _ _ h => h) (Or.inl ⟨by rfl, ?yq19⟩) (by assumption) ?rq19
    case yq19 => (intro wq hSw; (try simp only [List.getElem_toArray, List.getElem_cons_zero, List.getElem_cons_succ]); go_simp; (try with_reducible rfl); all_goals (try omega))
    case rq19 =>
    try simp only [Act.put, List.setIfInBounds_toArray, List.set_cons_zero, List.set_cons_succ, List.getElem_toArray, List.getElem_cons_zero, List.getElem_cons_succ]
    refine wpAnyH_take (i := 6) (v := .slice aY MY qY) rfl (by kernel_rfl) (by kernel_rfl) (by kernel_rfl) (fun _ _ _ h => h) (Or.inl ⟨by rfl, ?yq20⟩) (by assumption) ?rq20
    case yq20 => (intro wq hSw; (try simp only [List.getElem_toArray, List.getElem_cons_zero, List.getElem_cons_succ]); go_simp; (try with_reducible rfl); all_goals (try omega))
    case rq20 =>
    try simp only [Act.put, List.setIfInBounds_toArray, List.set_cons_zero, List.set_cons_succ, List.getElem_toArray, List.getElem_cons_zero, List.getElem_cons_succ]
    refine wpAnyH_ready (rs := [7]) (by kernel_rfl) (by simp) ?_
    refine AllReadyH.cons rfl (fun K hK => ?_) AllReadyH.nil
    go_simp
    refine (same_any w8.drew _ _ X Y (RVX.out.turn ((Turn.refl (fun _ => False) w8).drew) (fun _ _ => id)) (RVY.out.turn ((Turn.refl (fun _ => False) w8).drew) (fun _ _ => id)) (by have := HGX.out.len; have := HGY.out.len; omega)).mono ?_
    rintro r w9 ⟨rfl, t9⟩
    rw [HD.out]
    have T89 := Lib.hid (show Turn (fun _ => False) w8 w9 from (Turn.refl (fun _ => False) w8).drew.trans t9 (fun _ _ => id))
    clear t9
    refine hK.out _ _ ⟨HPX.out.turn T89.out (fun _ _ => id), HPY.out.turn T89.out (fun _ _ => id)⟩ (fun _ => ?_)
    clear hK K
    try simp only [Act.put, List.setIfInBounds_toArray, List.set_cons_zero, List.set_cons_succ, List.getElem_toArray, List.getElem_cons_zero, List.getElem_cons_succ]
    refine wpAnyH_take (i := 8) (v := .bool true) rfl (by kernel_rfl) (by kernel_rfl) (by kernel_rfl) (fun _ _ _ h => h) (Or.inl ⟨by rfl, ?yq21⟩) (by assumption) ?rq21
    case yq21 => (intro wq hSw; (try simp only [List.getElem_toArray, List.getElem_cons_zero, List.getElem_cons_succ]); go_simp; (try with_reducible rfl); all_goals (try omega))
    case rq21 =>
    try simp only [Act.put, List.setIfInBounds_toArray, List.set_cons_zero, List.set_cons_succ, List.getElem_toArray, List.getElem_cons_zero, List.getElem_cons_succ]
    refine wpAnyH_take (i := 9) (v := .bool true) rfl (by kernel_rfl) (by kernel_rfl) (by kernel_rfl) (fun _ _ _ h => h) (Or.inl ⟨by rfl, ?yq22⟩) (by assumption) ?rq22
    case yq22 => (intro wq hSw; (try simp only [List.getElem_toArray, List.getElem_cons_zero, List.getElem_cons_succ]); go_simp; (try with_reducible rfl); all_goals (try omega))
    case rq22 =>
    try simp only [Act.put, List.setIfInBounds_toArray, List.set_cons_zero, List.set_cons_succ, List.getElem_toArray, List.getElem_cons_zero, List.getElem_cons_succ]
    refine wpAnyH_take (i := 10) (v := .int .i64 7) rfl (by kernel_rfl) (by kernel_rfl) (by kernel_rfl) (fun _ _ _ h => h) (Or.inl ⟨by rfl, ?yq23⟩) (by assumption) ?rq23
    case yq23 => (intro wq hSw; (try simp only [List.getElem_toArray, List.getElem_cons_zero, List.getElem_cons_succ]); go_simp; (try with_reducible rfl); all_goals (try omega))
    case rq23 =>
    try simp only [Act.put, List.setIfInBounds_toArray, List.set_cons_zero, List.set_cons_succ, List.getElem_toArray, List.getElem_cons_zero, List.getElem_cons_succ]
    refine wpAnyH_take (i := 11) (v := .bool true) rfl (by kernel_rfl) (by kernel_rfl) (by kernel_rfl) (fun _ _ _ h => h) (Or.inl ⟨by rfl, ?yq24⟩) (by assumption) ?rq24
    case yq24 => (intro wq hSw; (try simp only [List.getElem_toArray, List.getElem_cons_zero, List.getElem_cons_succ]); go_simp; (try with_reducible rfl); all_goals (try omega))
    case rq24 =>
    try simp only [Act.put, List.setIfInBounds_toArray, List.set_cons_zero, List.set_cons_succ, List.getElem_toArray, List.getElem_cons_zero, List.getElem_cons_succ]
    refine wpAnyH_take (i := 12) (v := .bool true) rfl (by kernel_rfl) (by kernel_rfl) (by kernel_rfl) (fun _ _ _ h => h) (Or.inl ⟨by rfl, ?yq25⟩) (by assumption) ?rq25
    case yq25 => (intro wq hSw; (try simp only [List.getElem_toArray, List.getElem_cons_zero, List.getElem_cons_succ]); go_simp; (try with_reducible rfl); all_goals (try omega))
    case rq25 =>
    try simp only [Act.put, List.setIfInBounds_toArray, List.set_cons_zero, List.set_cons_succ, List.getElem_toArray, List.getElem_cons_zero, List.getElem_cons_succ]
    refine wpAnyH_take (i := 13) (v := .bool true) rfl (by kernel_rfl) (by kernel_rfl) (by kernel_rfl) (fun _ _ _ h => h) (Or.inl ⟨by rfl, ?yq26⟩) (by assumption) ?rq26
    case yq26 => (intro wq hSw; (try simp only [List.getElem_toArray, List.getElem_cons_zero, List.getElem_cons_succ]); go_simp; (try with_reducible rfl); all_goals (try omega))
    case rq26 =>
    try simp only [Act.put, List.setIfInBounds_toArray, List.set_cons_zero, List.set_cons_succ, List.getElem_toArray, List.getElem_cons_zero, List.getElem_cons_succ]
    refine wpAnyH_done (by kernel_rfl) ?_ _
    clear hHeld
    go_wp2_with fail
    go_ret
    exact ⟨by first | rfl | simp, T8.out.trans T89.out (fun _ _ => id)⟩
end Go.Proofs.Ytokjlhpkjebnkaa
