/- Own contracts: bounds: a name. No statement is proved here. -/
import Derived.Test.YtokjlhpkjebnkaaWb6
namespace Go.Proofs.Ytokjlhpkjebnkaa
set_option maxRecDepth 100000
open Go.RowKit
set_option linter.unusedVariables false
set_option linter.unusedSimpArgs false

set_option maxHeartbeats 4000000 in
theorem wbounds_5_false (w : World) (how : Int) (hh8 : how.tmod 8 = 5) : Calls Try.prog 9 #[.int .u8 how, .bool false] w fun r w' => r = .returned (.bool true) ∧ Turn (fun _ => False) w w' := by
  go_enter Try.func9, Try.ntmps9
  go_wp2_with (with_reducible (show wpList _ _ _ (Oper.mk (some 13) _ _ _ _ _ :: _) _ _); refine still ?_)
  refine list_exec rfl _ _ (exec_build_nk _ _ (.const (.int .i64 1)) (.const (.int .u8 255)) 1 255 rfl rfl rfl _) ?_
  go_wp2_with (with_reducible (show wpList _ _ _ (Oper.mk (some 14) _ _ _ _ _ :: _) _ _); refine still ?_)
  refine list_exec rfl _ _ (exec_build_one _ _ (.tmp 13) 26 Try.underlying26 rfl b0 rfl _) ?_
  have hbx := box_alloc w 24 b0.vals
  have how1 := one_own w b0 w.heap.size (Nat.le_refl _)
  obtain ⟨G, hG⟩ : ∃ G, w.heap.size = G := ⟨_, rfl⟩
  obtain ⟨w1, hw1⟩ : ∃ w1, w.alloc (.cells b0.vals.toArray 24) = w1 := ⟨_, rfl⟩
  rw [hw1] at hbx how1
  rw [hG, hw1]
  have hh := hbx.heap
  have t1 := hbx.turn
  rw [hG] at hh
  have hh : w1.drew.heap[G]? = some (.cells b0.vals.toArray 24 (0, 0)) := hh
  have td : Turn (fun _ => False) w1 w1.drew := (Turn.refl _ w1).drew
  obtain ⟨ta, hta⟩ : ∃ ta, tb.extract 0 12 = ta := ⟨_, rfl⟩
  have hsa : ta.size = 12 := by rw [← hta]; decide +kernel
  have hmk := make_zeros 0 (by omega) w1.drew
  have hcv := conv_zeros 0 w1.drew
  have tz : Turn (fun _ => False) w1.drew (w1.drew.alloc (.cells (List.replicate 0 (Value.int .u8 0)).toArray 5)) := (Turn.refl _ w1.drew).alloc _
  obtain ⟨Z, hZ⟩ : ∃ Z, w1.drew.heap.size = Z := ⟨_, rfl⟩
  obtain ⟨wz, hwz⟩ : ∃ wz, w1.drew.alloc (.cells (List.replicate 0 (Value.int .u8 0)).toArray 5) = wz := ⟨_, rfl⟩
  obtain ⟨S, hS⟩ : ∃ S, strOfNums (List.replicate 0 0) = S := ⟨_, rfl⟩
  rw [hZ, hwz] at hmk hcv
  rw [hS] at hcv
  rw [hwz] at tz
  have hsz : S.size = 0 := by rw [← hS]; rfl
  have hh2 := (tz.block G (Array.getElem?_eq_some_iff.1 hh).1 id).trans hh
  have hmk' : (Instr.makeSlice 49 (.int .i64 0) (.int .i64 0)).run Try.prog w1.drew = .ok (.slice (some ⟨Z, 0, none⟩) 0 0) wz := hmk
  obtain ⟨E, hE⟩ : ∃ E : El, { b0 with name := ta ++ S } = E := ⟨_, rfl⟩
  have hEv : b0.vals.toArray.setIfInBounds 4 (.string (ta ++ S)) = E.vals.toArray := by rw [← hE]; rfl
  have hX4 := heap_setCell_same wz G 4 b0.vals.toArray 24 (.string (ta ++ S)) hh2
  rw [hEv] at hX4
  have t4 : Turn (fun q => q = G) wz (wz.setCell ⟨G, 4, none⟩ (.string (ta ++ S))) := (Turn.refl (fun q => q = G) wz).setCell (p := ⟨G, 4, none⟩) (fun _ => rfl) _
  have c1 : wz.cell? ⟨G, 4, none⟩ = some (.string e0) := by rw [cell_of_row wz G 4 _ 24 (0, 0) hh2]; rfl
  have g1 : wz.frozen? ⟨G, 4, none⟩ = false := frozen_of_row wz G 4 _ 24 hh2
  have RV := Lib.hid (one_row hX4)
  have HT := Lib.hid (((t1.trans td (fun _ _ => id)).trans tz (fun _ _ => id)).trans t4 (fun q hq e => by omega))
  have HR := Lib.hid (show rightE [E] = true by rw [← hE, ← hS, ← hta]; decide +kernel)
  have HK := Lib.hid (show ∀ x ∈ [E], 0 ≤ x.kind ∧ x.kind ≤ 255 from fun x hx => by rw [List.mem_singleton.1 hx, ← hE]; show (0 : Int) ≤ 255 ∧ (255 : Int) ≤ 255; decide)
  have HTA := Lib.hid hta
  clear hbx how1 hh hh2 t1 hG hw1 hE hEv hX4 t4 tz hZ hwz hS hmk td hta
  go_wp2_with fail
  refine wp_region_held_drew (S := fun _ => True) (by kernel_rfl) trivial (fun hHeld => ?_)
  refine wpAnyH_take (i := 0) (v := .slice (some ⟨G, 0, none⟩) 1 1) rfl (by kernel_rfl) (by kernel_rfl) (by kernel_rfl) (fun _ _ _ h => h) (Or.inl ⟨by rfl, ?yq1⟩) (by assumption) ?rq1
  case yq1 => (intro wq hSw; (try simp only [List.getElem_toArray, List.getElem_cons_zero, List.getElem_cons_succ]); go_simp; (try with_reducible rfl); all_goals (try omega))
  case rq1 =>
  try simp only [Act.put, List.setIfInBounds_toArray, List.set_cons_zero, List.set_cons_succ, List.getElem_toArray, List.getElem_cons_zero, List.getElem_cons_succ]
  refine wpAnyH_take (i := 1) (v := .int .i64 0) rfl (by kernel_rfl) (by kernel_rfl) (by kernel_rfl) (fun _ _ _ h => h) (Or.inl ⟨by rfl, ?yq2⟩) (by assumption) ?rq2
  case yq2 => (intro wq hSw; (try simp only [List.getElem_toArray, List.getElem_cons_zero, List.getElem_cons_succ]); go_simp; (try with_reducible rfl); all_goals (try omega))
  case rq2 =>
  try simp only [Act.put, List.setIfInBounds_toArray, List.set_cons_zero, List.set_cons_succ, List.getElem_toArray, List.getElem_cons_zero, List.getElem_cons_succ]
  refine wpAnyH_take (i := 2) (v := .int .i64 12) rfl (by kernel_rfl) (by kernel_rfl) (by kernel_rfl) (fun _ _ _ h => h) (Or.inl ⟨by rfl, ?yq3⟩) (by assumption) ?rq3
  case yq3 => (intro wq hSw; (try simp only [List.getElem_toArray, List.getElem_cons_zero, List.getElem_cons_succ]); go_simp; (try with_reducible rfl); all_goals (first | omega | rfl | decide))
  case rq3 =>
  try simp only [Act.put, List.setIfInBounds_toArray, List.set_cons_zero, List.set_cons_succ, List.getElem_toArray, List.getElem_cons_zero, List.getElem_cons_succ]
  refine wpAnyH_take (i := 3) (v := .string ta) rfl (by kernel_rfl) (by kernel_rfl) (by kernel_rfl) (fun _ _ _ h => h) (Or.inl ⟨by rfl, ?yq4⟩) (by assumption) ?rq4
  case yq4 => (intro wq hSw; (try simp only [List.getElem_toArray, List.getElem_cons_zero, List.getElem_cons_succ]); rw [← HTA.out]; go_simp; all_goals rfl)
  case rq4 =>
  try simp only [Act.put, List.setIfInBounds_toArray, List.set_cons_zero, List.set_cons_succ, List.getElem_toArray, List.getElem_cons_zero, List.getElem_cons_succ]
  refine wpAnyH_take (i := 4) (v := .int .i64 0) rfl (by kernel_rfl) (by kernel_rfl) (by kernel_rfl) (fun _ _ _ h => h) (Or.inl ⟨by rfl, ?yq5⟩) (by assumption) ?rq5
  case yq5 => (intro wq hSw; (try simp only [List.getElem_toArray, List.getElem_cons_zero, List.getElem_cons_succ]); go_simp; (try with_reducible rfl); all_goals (try omega))
  case rq5 =>
  try simp only [Act.put, List.setIfInBounds_toArray, List.set_cons_zero, List.set_cons_succ, List.getElem_toArray, List.getElem_cons_zero, List.getElem_cons_succ]
  refine wpAnyH_take (i := 5) (v := .int .i64 0) rfl (by kernel_rfl) (by kernel_rfl) (by kernel_rfl) (fun _ _ _ h => h) (Or.inl ⟨by rfl, ?yq6⟩) (by assumption) ?rq6
  case yq6 => (intro wq hSw; (try simp only [List.getElem_toArray, List.getElem_cons_zero, List.getElem_cons_succ]); go_simp; (try with_reducible rfl); all_goals (first | omega | rfl | decide))
  case rq6 =>
  try simp only [Act.put, List.setIfInBounds_toArray, List.set_cons_zero, List.set_cons_succ, List.getElem_toArray, List.getElem_cons_zero, List.getElem_cons_succ]
  refine wpAnyH_ready (rs := [6]) (by kernel_rfl) (by simp) ?_
  refine AllReadyH.cons rfl (fun K hK => ?_) AllReadyH.nil
  go_simp
  refine hK.out _ _ trivial (fun _ => ?_)
  clear hK K
  try simp only [Act.put, List.setIfInBounds_toArray, List.set_cons_zero, List.set_cons_succ, List.getElem_toArray, List.getElem_cons_zero, List.getElem_cons_succ]
  refine wpAnyH_ready (rs := [7]) (by kernel_rfl) (by simp) ?_
  refine AllReadyH.cons rfl (fun K hK => ?_) AllReadyH.nil
  go_simp
  refine hK.out _ _ trivial (fun _ => ?_)
  clear hK K
  try simp only [Act.put, List.setIfInBounds_toArray, List.set_cons_zero, List.set_cons_succ, List.getElem_toArray, List.getElem_cons_zero, List.getElem_cons_succ]
  refine wpAnyH_take (i := 8) (v := .string (ta ++ S)) rfl (by kernel_rfl) (by kernel_rfl) (by kernel_rfl) (fun _ _ _ h => h) (Or.inl ⟨by rfl, ?yq7⟩) (by assumption) ?rq7
  case yq7 => (intro wq hSw; (try simp only [List.getElem_toArray, List.getElem_cons_zero, List.getElem_cons_succ]); go_simp; (try with_reducible rfl); all_goals (try omega))
  case rq7 =>
  try simp only [Act.put, List.setIfInBounds_toArray, List.set_cons_zero, List.set_cons_succ, List.getElem_toArray, List.getElem_cons_zero, List.getElem_cons_succ]
  refine wpAnyH_take (i := 9) (v := .pointer (some ⟨G, 0, none⟩)) rfl (by kernel_rfl) (by kernel_rfl) (by kernel_rfl) (fun _ _ _ h => h) (Or.inl ⟨by rfl, ?yq8⟩) (by assumption) ?rq8
  case yq8 => (intro wq hSw; (try simp only [List.getElem_toArray, List.getElem_cons_zero, List.getElem_cons_succ]); go_simp; (try with_reducible rfl); all_goals (try omega))
  case rq8 =>
  try simp only [Act.put, List.setIfInBounds_toArray, List.set_cons_zero, List.set_cons_succ, List.getElem_toArray, List.getElem_cons_zero, List.getElem_cons_succ]
  refine wpAnyH_take (i := 10) (v := .pointer (some ⟨G, 4, none⟩)) rfl (by kernel_rfl) (by kernel_rfl) (by kernel_rfl) (fun _ _ _ h => h) (Or.inl ⟨by rfl, ?yq9⟩) (by assumption) ?rq9
  case yq9 => (intro wq hSw; (try simp only [List.getElem_toArray, List.getElem_cons_zero, List.getElem_cons_succ]); go_simp; (try with_reducible rfl); all_goals (try omega))
  case rq9 =>
  try simp only [Act.put, List.setIfInBounds_toArray, List.set_cons_zero, List.set_cons_succ, List.getElem_toArray, List.getElem_cons_zero, List.getElem_cons_succ]
  refine wpAnyH_ready (rs := [11]) (by kernel_rfl) (by simp) ?_
  refine AllReadyH.cons rfl (fun K hK => ?_) AllReadyH.nil
  go_simp
  refine hK.out _ _ trivial (fun _ => ?_)
  clear hK K
  try simp only [Act.put, List.setIfInBounds_toArray, List.set_cons_zero, List.set_cons_succ, List.getElem_toArray, List.getElem_cons_zero, List.getElem_cons_succ]
  refine wpAnyH_done (by kernel_rfl) ?_ _
  clear hHeld
  go_wp2_with fail
  refine (encode_any _ _ [E] RV.out HK.out (by first | omega | decide | (simp; done))).mono ?_
  rintro e w2 ⟨t2, ⟨h, _⟩ | ⟨_, v, rfl, ho⟩⟩
  · rw [HR.out] at h; cases h
  have RV2 := Lib.hid (RV.out.turn t2 (fun _ _ => id))
  have T2 := Lib.hid (HT.out.trans t2 (fun _ _ => id))
  have HOO := Lib.hid ho
  clear t2 ho
  go_wp2_with fail
  refine (back_any w2 _ v [E] HR.out HK.out HOO.out).mono ?_
  rintro e w3 ⟨R, rfl, rv, t3⟩
  have RV3 := Lib.hid (RV2.out.turn t3 (fun _ _ => id))
  have RD3 := Lib.hid rv
  have T3 := Lib.hid (T2.out.trans t3 (fun _ _ => id))
  clear t3 rv
  go_wp2_with fail
  refine (awake10 w3).mono ?_
  rintro e w4 ⟨rfl, t4⟩
  have RV4 := Lib.hid (RV3.out.turn t4 (fun _ _ => id))
  have RD4 := Lib.hid (RD3.out.turn t4 (fun _ _ => id))
  have T4 := Lib.hid (T3.out.trans t4 (fun _ _ => id))
  clear t4
  have hrt := right_any w4 _ [E] RV4.out (by first | omega | decide | (simp; done))
  rw [HR.out] at hrt
  have HRT := Lib.hid hrt
  clear hrt
  go_wp2_with (go_at_call 30; refine (HRT.out).mono ?_; rintro e w5 ⟨rfl, t5⟩; have RV5 := Lib.hid (RV4.out.turn t5 (fun _ _ => id)); have RD5 := Lib.hid (RD4.out.turn t5 (fun _ _ => id)); have T5 := Lib.hid (T4.out.trans t5 (fun _ _ => id)); clear t5)
  refine (same_any w5 _ _ [E] [E] RV5.out RD5.out (by first | omega | decide | (simp; done))).mono ?_
  rintro e w6 ⟨rfl, t6⟩
  rw [decide_eq_true rfl]
  have T6 := Lib.hid (T5.out.trans t6 (fun _ _ => id))
  clear t6
  go_wp2_with fail
  go_ret
  exact ⟨by first | rfl | simp, T6.out⟩
set_option maxHeartbeats 4000000 in
theorem wbounds_5_true (w : World) (how : Int) (hh8 : how.tmod 8 = 5) : Calls Try.prog 9 #[.int .u8 how, .bool true] w fun r w' => r = .returned (.bool true) ∧ Turn (fun _ => False) w w' := by
  go_enter Try.func9, Try.ntmps9
  go_wp2_with (with_reducible (show wpList _ _ _ (Oper.mk (some 13) _ _ _ _ _ :: _) _ _); refine still ?_)
  refine list_exec rfl _ _ (exec_build_nk _ _ (.const (.int .i64 1)) (.const (.int .u8 255)) 1 255 rfl rfl rfl _) ?_
  go_wp2_with (with_reducible (show wpList _ _ _ (Oper.mk (some 14) _ _ _ _ _ :: _) _ _); refine still ?_)
  refine list_exec rfl _ _ (exec_build_one _ _ (.tmp 13) 26 Try.underlying26 rfl b0 rfl _) ?_
  have hbx := box_alloc w 24 b0.vals
  have how1 := one_own w b0 w.heap.size (Nat.le_refl _)
  obtain ⟨G, hG⟩ : ∃ G, w.heap.size = G := ⟨_, rfl⟩
  obtain ⟨w1, hw1⟩ : ∃ w1, w.alloc (.cells b0.vals.toArray 24) = w1 := ⟨_, rfl⟩
  rw [hw1] at hbx how1
  rw [hG, hw1]
  have hh := hbx.heap
  have t1 := hbx.turn
  rw [hG] at hh
  have hh : w1.drew.heap[G]? = some (.cells b0.vals.toArray 24 (0, 0)) := hh
  have td : Turn (fun _ => False) w1 w1.drew := (Turn.refl _ w1).drew
  obtain ⟨ta, hta⟩ : ∃ ta, tb.extract 0 11 = ta := ⟨_, rfl⟩
  have hsa : ta.size = 11 := by rw [← hta]; decide +kernel
  have hmk := make_zeros 2 (by omega) w1.drew
  have hcv := conv_zeros 2 w1.drew
  have tz : Turn (fun _ => False) w1.drew (w1.drew.alloc (.cells (List.replicate 2 (Value.int .u8 0)).toArray 5)) := (Turn.refl _ w1.drew).alloc _
  obtain ⟨Z, hZ⟩ : ∃ Z, w1.drew.heap.size = Z := ⟨_, rfl⟩
  obtain ⟨wz, hwz⟩ : ∃ wz, w1.drew.alloc (.cells (List.replicate 2 (Value.int .u8 0)).toArray 5) = wz := ⟨_, rfl⟩
  obtain ⟨S, hS⟩ : ∃ S, strOfNums (List.replicate 2 0) = S := ⟨_, rfl⟩
  rw [hZ, hwz] at hmk hcv
  rw [hS] at hcv
  rw [hwz] at tz
  have hsz : S.size = 2 := by rw [← hS]; rfl
  have hh2 := (tz.block G (Array.getElem?_eq_some_iff.1 hh).1 id).trans hh
  have hmk' : (Instr.makeSlice 49 (.int .i64 2) (.int .i64 2)).run Try.prog w1.drew = .ok (.slice (some ⟨Z, 0, none⟩) 2 2) wz := hmk
  obtain ⟨E, hE⟩ : ∃ E : El, { b0 with name := ta ++ S } = E := ⟨_, rfl⟩
  have hEv : b0.vals.toArray.setIfInBounds 4 (.string (ta ++ S)) = E.vals.toArray := by rw [← hE]; rfl
  have hX4 := heap_setCell_same wz G 4 b0.vals.toArray 24 (.string (ta ++ S)) hh2
  rw [hEv] at hX4
  have t4 : Turn (fun q => q = G) wz (wz.setCell ⟨G, 4, none⟩ (.string (ta ++ S))) := (Turn.refl (fun q => q = G) wz).setCell (p := ⟨G, 4, none⟩) (fun _ => rfl) _
  have c1 : wz.cell? ⟨G, 4, none⟩ = some (.string e0) := by rw [cell_of_row wz G 4 _ 24 (0, 0) hh2]; rfl
  have g1 : wz.frozen? ⟨G, 4, none⟩ = false := frozen_of_row wz G 4 _ 24 hh2
  have RV := Lib.hid (one_row hX4)
  have HT := Lib.hid (((t1.trans td (fun _ _ => id)).trans tz (fun _ _ => id)).trans t4 (fun q hq e => by omega))
  have HR := Lib.hid (show rightE [E] = false by rw [← hE, ← hS, ← hta]; decide +kernel)
  have HK := Lib.hid (show ∀ x ∈ [E], 0 ≤ x.kind ∧ x.kind ≤ 255 from fun x hx => by rw [List.mem_singleton.1 hx, ← hE]; show (0 : Int) ≤ 255 ∧ (255 : Int) ≤ 255; decide)
  have HTA := Lib.hid hta
  clear hbx how1 hh hh2 t1 hG hw1 hE hEv hX4 t4 tz hZ hwz hS hmk td hta
  go_wp2_with fail
  refine wp_region_held_drew (S := fun _ => True) (by kernel_rfl) trivial (fun hHeld => ?_)
  refine wpAnyH_take (i := 0) (v := .slice (some ⟨G, 0, none⟩) 1 1) rfl (by kernel_rfl) (by kernel_rfl) (by kernel_rfl) (fun _ _ _ h => h) (Or.inl ⟨by rfl, ?yq10⟩) (by assumption) ?rq10
  case yq10 => (intro wq hSw; (try simp only [List.getElem_toArray, List.getElem_cons_zero, List.getElem_cons_succ]); go_simp; (try with_reducible rfl); all_goals (try omega))
  case rq10 =>
  try simp only [Act.put, List.setIfInBounds_toArray, List.set_cons_zero, List.set_cons_succ, List.getElem_toArray, List.getElem_cons_zero, List.getElem_cons_succ]
  refine wpAnyH_take (i := 1) (v := .int .i64 1) rfl (by kernel_rfl) (by kernel_rfl) (by kernel_rfl) (fun _ _ _ h => h) (Or.inl ⟨by rfl, ?yq11⟩) (by assumption) ?rq11
  case yq11 => (intro wq hSw; (try simp only [List.getElem_toArray, List.getElem_cons_zero, List.getElem_cons_succ]); go_simp; (try with_reducible rfl); all_goals (try omega))
  case rq11 =>
  try simp only [Act.put, List.setIfInBounds_toArray, List.set_cons_zero, List.set_cons_succ, List.getElem_toArray, List.getElem_cons_zero, List.getElem_cons_succ]
  refine wpAnyH_take (i := 2) (v := .int .i64 11) rfl (by kernel_rfl) (by kernel_rfl) (by kernel_rfl) (fun _ _ _ h => h) (Or.inl ⟨by rfl, ?yq12⟩) (by assumption) ?rq12
  case yq12 => (intro wq hSw; (try simp only [List.getElem_toArray, List.getElem_cons_zero, List.getElem_cons_succ]); go_simp; (try with_reducible rfl); all_goals (first | omega | rfl | decide))
  case rq12 =>
  try simp only [Act.put, List.setIfInBounds_toArray, List.set_cons_zero, List.set_cons_succ, List.getElem_toArray, List.getElem_cons_zero, List.getElem_cons_succ]
  refine wpAnyH_take (i := 3) (v := .string ta) rfl (by kernel_rfl) (by kernel_rfl) (by kernel_rfl) (fun _ _ _ h => h) (Or.inl ⟨by rfl, ?yq13⟩) (by assumption) ?rq13
  case yq13 => (intro wq hSw; (try simp only [List.getElem_toArray, List.getElem_cons_zero, List.getElem_cons_succ]); rw [← HTA.out]; go_simp; all_goals rfl)
  case rq13 =>
  try simp only [Act.put, List.setIfInBounds_toArray, List.set_cons_zero, List.set_cons_succ, List.getElem_toArray, List.getElem_cons_zero, List.getElem_cons_succ]
  refine wpAnyH_take (i := 4) (v := .int .i64 1) rfl (by kernel_rfl) (by kernel_rfl) (by kernel_rfl) (fun _ _ _ h => h) (Or.inl ⟨by rfl, ?yq14⟩) (by assumption) ?rq14
  case yq14 => (intro wq hSw; (try simp only [List.getElem_toArray, List.getElem_cons_zero, List.getElem_cons_succ]); go_simp; (try with_reducible rfl); all_goals (try omega))
  case rq14 =>
  try simp only [Act.put, List.setIfInBounds_toArray, List.set_cons_zero, List.set_cons_succ, List.getElem_toArray, List.getElem_cons_zero, List.getElem_cons_succ]
  refine wpAnyH_take (i := 5) (v := .int .i64 2) rfl (by kernel_rfl) (by kernel_rfl) (by kernel_rfl) (fun _ _ _ h => h) (Or.inl ⟨by rfl, ?yq15⟩) (by assumption) ?rq15
  case yq15 => (intro wq hSw; (try simp only [List.getElem_toArray, List.getElem_cons_zero, List.getElem_cons_succ]); go_simp; (try with_reducible rfl); all_goals (first | omega | rfl | decide))
  case rq15 =>
  try simp only [Act.put, List.setIfInBounds_toArray, List.set_cons_zero, List.set_cons_succ, List.getElem_toArray, List.getElem_cons_zero, List.getElem_cons_succ]
  refine wpAnyH_ready (rs := [6]) (by kernel_rfl) (by simp) ?_
  refine AllReadyH.cons rfl (fun K hK => ?_) AllReadyH.nil
  go_simp
  refine hK.out _ _ trivial (fun _ => ?_)
  clear hK K
  try simp only [Act.put, List.setIfInBounds_toArray, List.set_cons_zero, List.set_cons_succ, List.getElem_toArray, List.getElem_cons_zero, List.getElem_cons_succ]
  refine wpAnyH_ready (rs := [7]) (by kernel_rfl) (by simp) ?_
  refine AllReadyH.cons rfl (fun K hK => ?_) AllReadyH.nil
  go_simp
  refine hK.out _ _ trivial (fun _ => ?_)
  clear hK K
  try simp only [Act.put, List.setIfInBounds_toArray, List.set_cons_zero, List.set_cons_succ, List.getElem_toArray, List.getElem_cons_zero, List.getElem_cons_succ]
  refine wpAnyH_take (i := 8) (v := .string (ta ++ S)) rfl (by kernel_rfl) (by kernel_rfl) (by kernel_rfl) (fun _ _ _ h => h) (Or.inl ⟨by rfl, ?yq16⟩) (by assumption) ?rq16
  case yq16 => (intro wq hSw; (try simp only [List.getElem_toArray, List.getElem_cons_zero, List.getElem_cons_succ]); go_simp; (try with_reducible rfl); all_goals (try omega))
  case rq16 =>
  try simp only [Act.put, List.setIfInBounds_toArray, List.set_cons_zero, List.set_cons_succ, List.getElem_toArray, List.getElem_cons_zero, List.getElem_cons_succ]
  refine wpAnyH_take (i := 9) (v := .pointer (some ⟨G, 0, none⟩)) rfl (by kernel_rfl) (by kernel_rfl) (by kernel_rfl) (fun _ _ _ h => h) (Or.inl ⟨by rfl, ?yq17⟩) (by assumption) ?rq17
  case yq17 => (intro wq hSw; (try simp only [List.getElem_toArray, List.getElem_cons_zero, List.getElem_cons_succ]); go_simp; (try with_reducible rfl); all_goals (try omega))
  case rq17 =>
  try simp only [Act.put, List.setIfInBounds_toArray, List.set_cons_zero, List.set_cons_succ, List.getElem_toArray, List.getElem_cons_zero, List.getElem_cons_succ]
  refine wpAnyH_take (i := 10) (v := .pointer (some ⟨G, 4, none⟩)) rfl (by kernel_rfl) (by kernel_rfl) (by kernel_rfl) (fun _ _ _ h => h) (Or.inl ⟨by rfl, ?yq18⟩) (by assumption) ?rq18
  case yq18 => (intro wq hSw; (try simp only [List.getElem_toArray, List.getElem_cons_zero, List.getElem_cons_succ]); go_simp; (try with_reducible rfl); all_goals (try omega))
  case rq18 =>
  try simp only [Act.put, List.setIfInBounds_toArray, List.set_cons_zero, List.set_cons_succ, List.getElem_toArray, List.getElem_cons_zero, List.getElem_cons_succ]
  refine wpAnyH_ready (rs := [11]) (by kernel_rfl) (by simp) ?_
  refine AllReadyH.cons rfl (fun K hK => ?_) AllReadyH.nil
  go_simp
  refine hK.out _ _ trivial (fun _ => ?_)
  clear hK K
  try simp only [Act.put, List.setIfInBounds_toArray, List.set_cons_zero, List.set_cons_succ, List.getElem_toArray, List.getElem_cons_zero, List.getElem_cons_succ]
  refine wpAnyH_done (by kernel_rfl) ?_ _
  clear hHeld
  go_wp2_with fail
  refine (encode_any _ _ [E] RV.out HK.out (by first | omega | decide | (simp; done))).mono ?_
  rintro e w2 ⟨t2, ⟨_, rfl⟩ | ⟨h, _⟩⟩
  rotate_left
  · rw [HR.out] at h; cases h
  have RV2 := Lib.hid (RV.out.turn t2 (fun _ _ => id))
  have T2 := Lib.hid (HT.out.trans t2 (fun _ _ => id))
  clear t2
  go_wp2_with fail
  refine (lost_any w2).mono ?_
  rintro e w3 ⟨rfl, t3⟩
  have RV3 := Lib.hid (RV2.out.turn t3 (fun _ _ => id))
  have T3 := Lib.hid (T2.out.trans t3 (fun _ _ => id))
  clear t3
  go_wp2_with fail
  refine (awake10 w3).mono ?_
  rintro e w4 ⟨rfl, t4⟩
  have RV4 := Lib.hid (RV3.out.turn t4 (fun _ _ => id))
  have T4 := Lib.hid (T3.out.trans t4 (fun _ _ => id))
  clear t4
  have hrt := right_any w4 _ [E] RV4.out (by first | omega | decide | (simp; done))
  rw [HR.out] at hrt
  have HRT := Lib.hid hrt
  clear hrt
  go_wp2_with (go_at_call 30; refine (HRT.out).mono ?_; rintro e w5 ⟨rfl, t5⟩; have T5 := Lib.hid (T4.out.trans t5 (fun _ _ => id)); clear t5)
  go_ret
  exact ⟨by first | rfl | simp, T5.out⟩
end Go.Proofs.Ytokjlhpkjebnkaa
