/- Own contracts: one: cases. No statement is proved here. -/
import Derived.Test.YtifhnidcodhoeaaOka
namespace Go.Proofs.Ytifhnidcodhoeaa
set_option maxRecDepth 100000
open Go.RowKit
set_option linter.unusedVariables false
set_option linter.unusedSimpArgs false

set_option maxHeartbeats 4000000 in
theorem one_0 (w : World) (how : Int) (hh : how.tmod 8 = 0) : Calls Try.prog 5 #[.int .u8 how] w fun e w' => e = .returned (.bool true) ∧ Turn (fun _ => False) w w' := by
  have ho := own_alloc w oneS (by decide)
  have t1 := turn_alloc w 35 (elsV oneS)
  obtain ⟨G, hG⟩ : ∃ G, w.heap.size = G := ⟨_, rfl⟩
  obtain ⟨w1, hw1⟩ : ∃ w1, w.alloc (.cells (elsV oneS).toArray 35) = w1 := ⟨_, rfl⟩
  have hbl : ∀ ev op, op.op = .buildSlice 23 4 #[(0, .tmp 5), (1, .tmp 6), (2, .tmp 7), (3, .tmp 8)] → ev (.tmp 5) = .agg (El.mk 1 1 0 0 ({ data := #[97] } : ByteArray) 0 0 ByteArray.empty ByteArray.empty ByteArray.empty).vals.toArray → ev (.tmp 6) = .agg (El.mk 2 1 1 0 ({ data := #[98] } : ByteArray) 0 0 ByteArray.empty ByteArray.empty ByteArray.empty).vals.toArray → ev (.tmp 7) = .agg (El.mk 3 4 0 0 ByteArray.empty 0 0 ByteArray.empty ByteArray.empty ByteArray.empty).vals.toArray → ev (.tmp 8) = .agg (El.mk 4 5 0 0 ByteArray.empty 1 3 ({ data := #[101] } : ByteArray) ByteArray.empty ByteArray.empty).vals.toArray → (execOp ev op).run Try.prog w = .ok (.value (.slice (some ⟨G, 0, none⟩) 4 4)) w1 := fun ev op ho h0 h1 h2 h3 => by rw [← hw1, ← hG]; exact exec_els4 ev op _ _ _ _ ho _ _ _ _ h0 h1 h2 h3 w
  rw [hw1] at ho t1
  rw [hG] at ho
  have HO := Lib.hid (show OwV G w1 (.slice (some ⟨G, 0, none⟩) 4 4) oneS from ho)
  have T1 := Lib.hid t1
  have HBL := Lib.hid hbl
  have HG := Lib.hid hG
  clear ho t1 hw1 hbl hG
  go_enter Try.func5, Try.ntmps5
  go_wp2_with (with_reducible (show wpList _ _ _ (Oper.mk (some 5) (.build 35 _) _ _ _ _ :: _) _ _); refine still ?_)
  refine list_exec rfl _ _ (exec_el014 _ _ _ _ _ 1 1 ({ data := #[97] } : ByteArray) rfl rfl rfl rfl _) ?_
  go_wp2_with (with_reducible (show wpList _ _ _ (Oper.mk (some 6) (.build 35 _) _ _ _ _ :: _) _ _); refine still ?_)
  refine list_exec rfl _ _ (exec_el0142 _ _ _ _ _ _ 2 1 ({ data := #[98] } : ByteArray) 1 rfl rfl rfl rfl rfl _) ?_
  go_wp2_with (with_reducible (show wpList _ _ _ (Oper.mk (some 7) (.build 35 _) _ _ _ _ :: _) _ _); refine still ?_)
  refine list_exec rfl _ _ (exec_el01 _ _ _ _ 3 4 rfl rfl rfl _) ?_
  go_wp2_with (with_reducible (show wpList _ _ _ (Oper.mk (some 8) (.build 35 _) _ _ _ _ :: _) _ _); refine still ?_)
  refine list_exec rfl _ _ (exec_el01567 _ _ _ _ _ _ _ 4 5 1 3 ({ data := #[101] } : ByteArray) rfl rfl rfl rfl rfl rfl _) ?_
  go_wp2_with (with_reducible (show wpList _ _ _ (Oper.mk (some 9) (.buildSlice 23 _ _) _ _ _ _ :: _) _ _); refine still ?_)
  refine list_exec rfl _ _ (HBL.out _ _ rfl rfl rfl rfl rfl) ?_
  go_wp2_with (with_reducible (show wpList _ _ _ (Oper.mk (some 10) (.build 26 _) _ _ _ _ :: _) _ _); refine still ?_)
  refine list_exec rfl _ _ (exec_fv0 _ _ rfl _) ?_
  obtain ⟨B, hB⟩ : ∃ B, w1.heap.size = B := ⟨_, rfl⟩
  obtain ⟨wz, hwz⟩ : ∃ wz, w1.alloc (.cells (fv 0 0).toArray 26) = wz := ⟨_, rfl⟩
  have hx2 : ∀ ev op, op.op = .alloc 26 → (execOp ev op).run Try.prog w1 = .ok (.value (.pointer (some ⟨B, 0, none⟩))) wz := fun ev op ho => by rw [← hwz, ← hB]; exact exec_zero26 ev op ho _
  have hb2 := box_alloc w1 26 (fv 0 0)
  rw [hwz] at hb2
  have hh2 := hb2.heap
  rw [hB] at hh2
  have HX2 := Lib.hid hx2
  have HB2 := Lib.hid hb2
  have HH2 := Lib.hid hh2
  have HE2 := Lib.hid hB
  clear hb2 hB hwz hx2 hh2
  go_wp2_with (with_reducible (show wpList _ _ _ (Oper.mk (some 4) (.alloc 26) _ _ _ _ :: _) _ _); refine still ?_)
  refine list_exec rfl _ _ (HX2.out _ _ rfl) ?_
  go_wp2_with (with_reducible (show wpList _ _ _ (Oper.mk none (.store 26 (.tmp 4) (.tmp 10)) _ _ _ _ :: _) _ _); refine still ?_)
  refine list_put wz B 26 (fv 0 0) (fv 0 0) HH2.out rfl (fv_one _ _) fv_info rfl (.tmp 4) (.tmp 10) rfl rfl rfl (fun w2 hw2 tw2 => ?_)
  have Pw2 := Lib.hid hw2
  have Uw2 := Lib.hid (HB2.out.turn.trans tw2 (fun q hq e => by have := HE2.out; omega))
  clear hw2 tw2
  have HO2 := Lib.hid (HO.out.turn Uw2.out (fun _ _ => id))
  have T2 := Lib.hid (T1.out.trans Uw2.out (fun _ _ => id))
  have HGB := Lib.hid (show G < B ∧ w.heap.size ≤ B from by obtain ⟨g, h1, h2, h3⟩ := HO.out.at (l := oneS) rfl (by decide); injection h1 with h1; injection h1 with h1 _ _; exact ⟨by have := HE2.out; omega, by have := HE2.out; have := T1.out.size; omega⟩)
  go_wp2_with fail
  have HC := Lib.hid (show checkE oneS = (0, 0) from by decide +kernel)
  refine wp_region_held_drew (S := fun wq => wq.rangeAt B 0 (fv 0 0)) (by kernel_rfl) (range_of Pw2.out) (fun hHeld => ?_)
  refine wpAnyH_ready (rs := [0]) (by kernel_rfl) (by simp) ?_
  refine AllReadyH.cons rfl (fun K hK => ?_) AllReadyH.nil
  go_simp
  refine (awake_any w2.drew).mono ?_
  rintro r w4 ⟨rfl, t4⟩
  have U4 := Lib.hid (show Turn (fun _ => False) w2 w4 from (Turn.refl (fun _ => False) w2).drew.trans t4 (fun _ _ => id))
  clear t4
  refine hK.out _ _ (rangeAt_turn (range_of Pw2.out) U4.out id) (fun _ => ?_)
  clear hK K
  try simp only [Act.put, List.setIfInBounds_toArray, List.set_cons_zero, List.set_cons_succ, List.getElem_toArray, List.getElem_cons_zero, List.getElem_cons_succ]
  refine wpAnyH_take (i := 1) (v := .bool true) rfl (by kernel_rfl) (by kernel_rfl) (by kernel_rfl) (fun _ _ _ h => h) (Or.inl ⟨by rfl, ?yq33⟩) (by assumption) ?rq33
  case yq33 => (intro wq hSw; (try simp only [List.getElem_toArray, List.getElem_cons_zero, List.getElem_cons_succ]); go_simp; (try with_reducible rfl); all_goals (try omega))
  case rq33 =>
  try simp only [Act.put, List.setIfInBounds_toArray, List.set_cons_zero, List.set_cons_succ, List.getElem_toArray, List.getElem_cons_zero, List.getElem_cons_succ]
  refine wpAnyH_take (i := 2) (v := .slice (some ⟨G, 0, none⟩) 4 4) rfl (by kernel_rfl) (by kernel_rfl) (by kernel_rfl) (fun _ _ _ h => h) (Or.inl ⟨by rfl, ?yq34⟩) (by assumption) ?rq34
  case yq34 => (intro wq hSw; (try simp only [List.getElem_toArray, List.getElem_cons_zero, List.getElem_cons_succ]); go_simp; (try with_reducible rfl); all_goals (try omega))
  case rq34 =>
  try simp only [Act.put, List.setIfInBounds_toArray, List.set_cons_zero, List.set_cons_succ, List.getElem_toArray, List.getElem_cons_zero, List.getElem_cons_succ]
  refine wpAnyH_take (i := 4) (v := .agg (fv 0 0).toArray) rfl (by kernel_rfl) (by kernel_rfl) (by kernel_rfl) (fun _ _ _ h => h) (Or.inl ⟨by rfl, ?yq35⟩) (by assumption) ?rq35
  case yq35 => (intro wq hSw; exact exec_load_mid _ _ 26 (.tmp 4) rfl B 0 rfl (fv 0 0) _ wq hSw Try.underlying26 rfl fv_info)
  case rq35 =>
  try simp only [Act.put, List.setIfInBounds_toArray, List.set_cons_zero, List.set_cons_succ, List.getElem_toArray, List.getElem_cons_zero, List.getElem_cons_succ]
  refine wpAnyH_ready (rs := [3]) (by kernel_rfl) (by simp) ?_
  refine AllReadyH.cons rfl (fun K hK => ?_) AllReadyH.nil
  go_simp
  refine (rcheck_any w4 _ oneS (HO2.out.turn U4.out (fun _ _ => id)).row (by decide)).mono ?_
  rw [HC.out]
  rintro r w5 ⟨rfl, t5⟩
  have U5 := Lib.hid (U4.out.trans t5 (fun _ _ => id))
  clear t5
  refine hK.out _ _ (rangeAt_turn (range_of Pw2.out) U5.out id) (fun _ => ?_)
  clear hK K
  try simp only [Act.put, List.setIfInBounds_toArray, List.set_cons_zero, List.set_cons_succ, List.getElem_toArray, List.getElem_cons_zero, List.getElem_cons_succ]
  refine wpAnyH_take (i := 5) (v := .bool true) rfl (by kernel_rfl) (by kernel_rfl) (by kernel_rfl) (fun _ _ _ h => h) (Or.inl ⟨by rfl, ?yq36⟩) (by assumption) ?rq36
  case yq36 => (intro wq hSw; exact exec_eql_fv1 _ _ rfl 0 0 _ rfl rfl)
  case rq36 =>
  try simp only [Act.put, List.setIfInBounds_toArray, List.set_cons_zero, List.set_cons_succ, List.getElem_toArray, List.getElem_cons_zero, List.getElem_cons_succ]
  refine wpAnyH_take (i := 6) (v := .bool true) rfl (by kernel_rfl) (by kernel_rfl) (by kernel_rfl) (fun _ _ _ h => h) (Or.inl ⟨by rfl, ?yq37⟩) (by assumption) ?rq37
  case yq37 => (intro wq hSw; (try simp only [List.getElem_toArray, List.getElem_cons_zero, List.getElem_cons_succ]); go_simp; (try with_reducible rfl); all_goals (try omega))
  case rq37 =>
  try simp only [Act.put, List.setIfInBounds_toArray, List.set_cons_zero, List.set_cons_succ, List.getElem_toArray, List.getElem_cons_zero, List.getElem_cons_succ]
  refine wpAnyH_take (i := 7) (v := .bool true) rfl (by kernel_rfl) (by kernel_rfl) (by kernel_rfl) (fun _ _ _ h => h) (Or.inl ⟨by rfl, ?yq38⟩) (by assumption) ?rq38
  case yq38 => (intro wq hSw; (try simp only [List.getElem_toArray, List.getElem_cons_zero, List.getElem_cons_succ]); go_simp; (try with_reducible rfl); all_goals (try omega))
  case rq38 =>
  try simp only [Act.put, List.setIfInBounds_toArray, List.set_cons_zero, List.set_cons_succ, List.getElem_toArray, List.getElem_cons_zero, List.getElem_cons_succ]
  refine wpAnyH_take (i := 8) (v := .bool true) rfl (by kernel_rfl) (by kernel_rfl) (by kernel_rfl) (fun _ _ _ h => h) (Or.inl ⟨by rfl, ?yq39⟩) (by assumption) ?rq39
  case yq39 => (intro wq hSw; (try simp only [List.getElem_toArray, List.getElem_cons_zero, List.getElem_cons_succ]); go_simp; (try with_reducible rfl); all_goals (try omega))
  case rq39 =>
  try simp only [Act.put, List.setIfInBounds_toArray, List.set_cons_zero, List.set_cons_succ, List.getElem_toArray, List.getElem_cons_zero, List.getElem_cons_succ]
  refine wpAnyH_take (i := 9) (v := .bool true) rfl (by kernel_rfl) (by kernel_rfl) (by kernel_rfl) (fun _ _ _ h => h) (Or.inl ⟨by rfl, ?yq40⟩) (by assumption) ?rq40
  case yq40 => (intro wq hSw; (try simp only [List.getElem_toArray, List.getElem_cons_zero, List.getElem_cons_succ]); go_simp; (try with_reducible rfl); all_goals (try omega))
  case rq40 =>
  try simp only [Act.put, List.setIfInBounds_toArray, List.set_cons_zero, List.set_cons_succ, List.getElem_toArray, List.getElem_cons_zero, List.getElem_cons_succ]
  refine wpAnyH_take (i := 10) (v := .bool true) rfl (by kernel_rfl) (by kernel_rfl) (by kernel_rfl) (fun _ _ _ h => h) (Or.inl ⟨by rfl, ?yq41⟩) (by assumption) ?rq41
  case yq41 => (intro wq hSw; (try simp only [List.getElem_toArray, List.getElem_cons_zero, List.getElem_cons_succ]); go_simp; (try with_reducible rfl); all_goals (try omega))
  case rq41 =>
  try simp only [Act.put, List.setIfInBounds_toArray, List.set_cons_zero, List.set_cons_succ, List.getElem_toArray, List.getElem_cons_zero, List.getElem_cons_succ]
  refine wpAnyH_take (i := 11) (v := .bool true) rfl (by kernel_rfl) (by kernel_rfl) (by kernel_rfl) (fun _ _ _ h => h) (Or.inl ⟨by rfl, ?yq42⟩) (by assumption) ?rq42
  case yq42 => (intro wq hSw; (try simp only [List.getElem_toArray, List.getElem_cons_zero, List.getElem_cons_succ]); go_simp; (try with_reducible rfl); all_goals (try omega))
  case rq42 =>
  try simp only [Act.put, List.setIfInBounds_toArray, List.set_cons_zero, List.set_cons_succ, List.getElem_toArray, List.getElem_cons_zero, List.getElem_cons_succ]
  refine wpAnyH_done (by kernel_rfl) ?_ _
  clear hHeld
  go_wp2_with fail
  go_ret
  exact ⟨rfl, T2.out.trans U5.out (fun _ _ => id)⟩
set_option maxHeartbeats 4000000 in
theorem one_1 (w : World) (how : Int) (hh : how.tmod 8 = 1) : Calls Try.prog 5 #[.int .u8 how] w fun e w' => e = .returned (.bool true) ∧ Turn (fun _ => False) w w' := by
  have ho := own_alloc w oneS (by decide)
  have t1 := turn_alloc w 35 (elsV oneS)
  obtain ⟨G, hG⟩ : ∃ G, w.heap.size = G := ⟨_, rfl⟩
  obtain ⟨w1, hw1⟩ : ∃ w1, w.alloc (.cells (elsV oneS).toArray 35) = w1 := ⟨_, rfl⟩
  have hbl : ∀ ev op, op.op = .buildSlice 23 4 #[(0, .tmp 5), (1, .tmp 6), (2, .tmp 7), (3, .tmp 8)] → ev (.tmp 5) = .agg (El.mk 1 1 0 0 ({ data := #[97] } : ByteArray) 0 0 ByteArray.empty ByteArray.empty ByteArray.empty).vals.toArray → ev (.tmp 6) = .agg (El.mk 2 1 1 0 ({ data := #[98] } : ByteArray) 0 0 ByteArray.empty ByteArray.empty ByteArray.empty).vals.toArray → ev (.tmp 7) = .agg (El.mk 3 4 0 0 ByteArray.empty 0 0 ByteArray.empty ByteArray.empty ByteArray.empty).vals.toArray → ev (.tmp 8) = .agg (El.mk 4 5 0 0 ByteArray.empty 1 3 ({ data := #[101] } : ByteArray) ByteArray.empty ByteArray.empty).vals.toArray → (execOp ev op).run Try.prog w = .ok (.value (.slice (some ⟨G, 0, none⟩) 4 4)) w1 := fun ev op ho h0 h1 h2 h3 => by rw [← hw1, ← hG]; exact exec_els4 ev op _ _ _ _ ho _ _ _ _ h0 h1 h2 h3 w
  rw [hw1] at ho t1
  rw [hG] at ho
  have HO := Lib.hid (show OwV G w1 (.slice (some ⟨G, 0, none⟩) 4 4) oneS from ho)
  have T1 := Lib.hid t1
  have HBL := Lib.hid hbl
  have HG := Lib.hid hG
  clear ho t1 hw1 hbl hG
  go_enter Try.func5, Try.ntmps5
  go_wp2_with (with_reducible (show wpList _ _ _ (Oper.mk (some 5) (.build 35 _) _ _ _ _ :: _) _ _); refine still ?_)
  refine list_exec rfl _ _ (exec_el014 _ _ _ _ _ 1 1 ({ data := #[97] } : ByteArray) rfl rfl rfl rfl _) ?_
  go_wp2_with (with_reducible (show wpList _ _ _ (Oper.mk (some 6) (.build 35 _) _ _ _ _ :: _) _ _); refine still ?_)
  refine list_exec rfl _ _ (exec_el0142 _ _ _ _ _ _ 2 1 ({ data := #[98] } : ByteArray) 1 rfl rfl rfl rfl rfl _) ?_
  go_wp2_with (with_reducible (show wpList _ _ _ (Oper.mk (some 7) (.build 35 _) _ _ _ _ :: _) _ _); refine still ?_)
  refine list_exec rfl _ _ (exec_el01 _ _ _ _ 3 4 rfl rfl rfl _) ?_
  go_wp2_with (with_reducible (show wpList _ _ _ (Oper.mk (some 8) (.build 35 _) _ _ _ _ :: _) _ _); refine still ?_)
  refine list_exec rfl _ _ (exec_el01567 _ _ _ _ _ _ _ 4 5 1 3 ({ data := #[101] } : ByteArray) rfl rfl rfl rfl rfl rfl _) ?_
  go_wp2_with (with_reducible (show wpList _ _ _ (Oper.mk (some 9) (.buildSlice 23 _ _) _ _ _ _ :: _) _ _); refine still ?_)
  refine list_exec rfl _ _ (HBL.out _ _ rfl rfl rfl rfl rfl) ?_
  go_wp2_with (with_reducible (show wpList _ _ _ (Oper.mk (some 10) (.build 26 _) _ _ _ _ :: _) _ _); refine still ?_)
  refine list_exec rfl _ _ (exec_fv0 _ _ rfl _) ?_
  obtain ⟨B, hB⟩ : ∃ B, w1.heap.size = B := ⟨_, rfl⟩
  obtain ⟨wz, hwz⟩ : ∃ wz, w1.alloc (.cells (fv 0 0).toArray 26) = wz := ⟨_, rfl⟩
  have hx2 : ∀ ev op, op.op = .alloc 26 → (execOp ev op).run Try.prog w1 = .ok (.value (.pointer (some ⟨B, 0, none⟩))) wz := fun ev op ho => by rw [← hwz, ← hB]; exact exec_zero26 ev op ho _
  have hb2 := box_alloc w1 26 (fv 0 0)
  rw [hwz] at hb2
  have hh2 := hb2.heap
  rw [hB] at hh2
  have HX2 := Lib.hid hx2
  have HB2 := Lib.hid hb2
  have HH2 := Lib.hid hh2
  have HE2 := Lib.hid hB
  clear hb2 hB hwz hx2 hh2
  go_wp2_with (with_reducible (show wpList _ _ _ (Oper.mk (some 4) (.alloc 26) _ _ _ _ :: _) _ _); refine still ?_)
  refine list_exec rfl _ _ (HX2.out _ _ rfl) ?_
  go_wp2_with (with_reducible (show wpList _ _ _ (Oper.mk none (.store 26 (.tmp 4) (.tmp 10)) _ _ _ _ :: _) _ _); refine still ?_)
  refine list_put wz B 26 (fv 0 0) (fv 0 0) HH2.out rfl (fv_one _ _) fv_info rfl (.tmp 4) (.tmp 10) rfl rfl rfl (fun w2 hw2 tw2 => ?_)
  have Pw2 := Lib.hid hw2
  have Uw2 := Lib.hid (HB2.out.turn.trans tw2 (fun q hq e => by have := HE2.out; omega))
  clear hw2 tw2
  have HO2 := Lib.hid (HO.out.turn Uw2.out (fun _ _ => id))
  have T2 := Lib.hid (T1.out.trans Uw2.out (fun _ _ => id))
  have HGB := Lib.hid (show G < B ∧ w.heap.size ≤ B from by obtain ⟨g, h1, h2, h3⟩ := HO.out.at (l := oneS) rfl (by decide); injection h1 with h1; injection h1 with h1 _ _; exact ⟨by have := HE2.out; omega, by have := HE2.out; have := T1.out.size; omega⟩)
  obtain ⟨hs, hf0⟩ := own_set (base := G) HO2.out (n := 4) rfl 2 (by decide) 1 (by decide) (.int .u8 6) (El.mk 3 6 0 0 ByteArray.empty 0 0 ByteArray.empty ByteArray.empty ByteArray.empty) rfl
  have tn : Turn (fun q => q = G) w2 (w2.setCell ⟨G, 2 * 10 + 1, none⟩ (.int .u8 6)) := (Turn.refl (fun q => q = G) w2).setCell (p := ⟨G, 2 * 10 + 1, none⟩) (fun _ => rfl) _
  obtain ⟨cv0, hcv0⟩ := own_cell HO2.out (n := 4) rfl 2 (by decide) 1 (by decide)
  simp only [Nat.reduceMul, Nat.reduceAdd, Nat.zero_add] at hs hf0 tn hcv0
  obtain ⟨wn0, hwn0⟩ : ∃ n, w2.setCell ⟨G, 21, none⟩ (.int .u8 6) = n := ⟨_, rfl⟩
  rw [hwn0] at hs tn
  have HOwn0 := Lib.hid (show OwV G wn0 (.slice (some ⟨G, 0, none⟩) 4 4) [(El.mk 1 1 0 0 ({ data := #[97] } : ByteArray) 0 0 ByteArray.empty ByteArray.empty ByteArray.empty), (El.mk 2 1 1 0 ({ data := #[98] } : ByteArray) 0 0 ByteArray.empty ByteArray.empty ByteArray.empty), (El.mk 3 6 0 0 ByteArray.empty 0 0 ByteArray.empty ByteArray.empty ByteArray.empty), (El.mk 4 5 0 0 ByteArray.empty 1 3 ({ data := #[101] } : ByteArray) ByteArray.empty ByteArray.empty)] from hs)
  have Twn0 := Lib.hid (T2.out.trans tn (fun q hq e => by have := HG.out; omega))
  have Pwn0 := Lib.hid ((tn.block B (Array.getElem?_eq_some_iff.1 Pw2.out).1 (fun e => by have := HGB.out; omega)).trans Pw2.out)
  clear hs tn
  go_wp2_with (with_reducible (show wpList _ _ _ (Oper.mk (some 18) (.build 26 _) _ _ _ _ :: _) _ _); refine still ?_)
  clear hcv0 hf0 hwn0
  refine list_exec rfl _ _ (exec_fvB _ _ _ _ 2 3 rfl rfl rfl _) ?_
  go_wp2_with (with_reducible (show wpList _ _ _ (Oper.mk none (.store 26 (.tmp 4) (.tmp 18)) _ _ _ _ :: _) _ _); refine still ?_)
  refine list_put wn0 B 26 (fv 0 0) (fv 2 3) Pwn0.out rfl (fv_one _ _) fv_info rfl (.tmp 4) (.tmp 18) rfl rfl rfl (fun w3 h3 t3 => ?_)
  have P3 := Lib.hid h3
  have T3 := Lib.hid (Twn0.out.trans t3 (fun q hq e => by have := HGB.out; omega))
  have HO3 := Lib.hid (HOwn0.out.turn t3 (fun q hq e => by have e2 : q = B := e; have e3 : G = q := Option.some.inj hq; have := HGB.out; omega))
  clear h3 t3
  go_wp2_with fail
  have HC := Lib.hid (show checkE [(El.mk 1 1 0 0 ({ data := #[97] } : ByteArray) 0 0 ByteArray.empty ByteArray.empty ByteArray.empty), (El.mk 2 1 1 0 ({ data := #[98] } : ByteArray) 0 0 ByteArray.empty ByteArray.empty ByteArray.empty), (El.mk 3 6 0 0 ByteArray.empty 0 0 ByteArray.empty ByteArray.empty ByteArray.empty), (El.mk 4 5 0 0 ByteArray.empty 1 3 ({ data := #[101] } : ByteArray) ByteArray.empty ByteArray.empty)] = (2, 3) from by decide +kernel)
  refine wp_region_held_drew (S := fun wq => wq.rangeAt B 0 (fv 2 3)) (by kernel_rfl) (range_of P3.out) (fun hHeld => ?_)
  refine wpAnyH_ready (rs := [0]) (by kernel_rfl) (by simp) ?_
  refine AllReadyH.cons rfl (fun K hK => ?_) AllReadyH.nil
  go_simp
  refine (awake_any w3.drew).mono ?_
  rintro r w4 ⟨rfl, t4⟩
  have U4 := Lib.hid (show Turn (fun _ => False) w3 w4 from (Turn.refl (fun _ => False) w3).drew.trans t4 (fun _ _ => id))
  clear t4
  refine hK.out _ _ (rangeAt_turn (range_of P3.out) U4.out id) (fun _ => ?_)
  clear hK K
  try simp only [Act.put, List.setIfInBounds_toArray, List.set_cons_zero, List.set_cons_succ, List.getElem_toArray, List.getElem_cons_zero, List.getElem_cons_succ]
  refine wpAnyH_take (i := 1) (v := .bool true) rfl (by kernel_rfl) (by kernel_rfl) (by kernel_rfl) (fun _ _ _ h => h) (Or.inl ⟨by rfl, ?yq43⟩) (by assumption) ?rq43
  case yq43 => (intro wq hSw; (try simp only [List.getElem_toArray, List.getElem_cons_zero, List.getElem_cons_succ]); go_simp; (try with_reducible rfl); all_goals (try omega))
  case rq43 =>
  try simp only [Act.put, List.setIfInBounds_toArray, List.set_cons_zero, List.set_cons_succ, List.getElem_toArray, List.getElem_cons_zero, List.getElem_cons_succ]
  refine wpAnyH_take (i := 2) (v := .slice (some ⟨G, 0, none⟩) 4 4) rfl (by kernel_rfl) (by kernel_rfl) (by kernel_rfl) (fun _ _ _ h => h) (Or.inl ⟨by rfl, ?yq44⟩) (by assumption) ?rq44
  case yq44 => (intro wq hSw; (try simp only [List.getElem_toArray, List.getElem_cons_zero, List.getElem_cons_succ]); go_simp; (try with_reducible rfl); all_goals (try omega))
  case rq44 =>
  try simp only [Act.put, List.setIfInBounds_toArray, List.set_cons_zero, List.set_cons_succ, List.getElem_toArray, List.getElem_cons_zero, List.getElem_cons_succ]
  refine wpAnyH_take (i := 4) (v := .agg (fv 2 3).toArray) rfl (by kernel_rfl) (by kernel_rfl) (by kernel_rfl) (fun _ _ _ h => h) (Or.inl ⟨by rfl, ?yq45⟩) (by assumption) ?rq45
  case yq45 => (intro wq hSw; exact exec_load_mid _ _ 26 (.tmp 4) rfl B 0 rfl (fv 2 3) _ wq hSw Try.underlying26 rfl fv_info)
  case rq45 =>
  try simp only [Act.put, List.setIfInBounds_toArray, List.set_cons_zero, List.set_cons_succ, List.getElem_toArray, List.getElem_cons_zero, List.getElem_cons_succ]
  refine wpAnyH_ready (rs := [3]) (by kernel_rfl) (by simp) ?_
  refine AllReadyH.cons rfl (fun K hK => ?_) AllReadyH.nil
  go_simp
  refine (rcheck_any w4 _ [(El.mk 1 1 0 0 ({ data := #[97] } : ByteArray) 0 0 ByteArray.empty ByteArray.empty ByteArray.empty), (El.mk 2 1 1 0 ({ data := #[98] } : ByteArray) 0 0 ByteArray.empty ByteArray.empty ByteArray.empty), (El.mk 3 6 0 0 ByteArray.empty 0 0 ByteArray.empty ByteArray.empty ByteArray.empty), (El.mk 4 5 0 0 ByteArray.empty 1 3 ({ data := #[101] } : ByteArray) ByteArray.empty ByteArray.empty)] (HO3.out.turn U4.out (fun _ _ => id)).row (by decide)).mono ?_
  rw [HC.out]
  rintro r w5 ⟨rfl, t5⟩
  have U5 := Lib.hid (U4.out.trans t5 (fun _ _ => id))
  clear t5
  refine hK.out _ _ (rangeAt_turn (range_of P3.out) U5.out id) (fun _ => ?_)
  clear hK K
  try simp only [Act.put, List.setIfInBounds_toArray, List.set_cons_zero, List.set_cons_succ, List.getElem_toArray, List.getElem_cons_zero, List.getElem_cons_succ]
  refine wpAnyH_take (i := 5) (v := .bool true) rfl (by kernel_rfl) (by kernel_rfl) (by kernel_rfl) (fun _ _ _ h => h) (Or.inl ⟨by rfl, ?yq46⟩) (by assumption) ?rq46
  case yq46 => (intro wq hSw; exact exec_eql_fv1 _ _ rfl 2 3 _ rfl rfl)
  case rq46 =>
  try simp only [Act.put, List.setIfInBounds_toArray, List.set_cons_zero, List.set_cons_succ, List.getElem_toArray, List.getElem_cons_zero, List.getElem_cons_succ]
  refine wpAnyH_take (i := 6) (v := .bool true) rfl (by kernel_rfl) (by kernel_rfl) (by kernel_rfl) (fun _ _ _ h => h) (Or.inl ⟨by rfl, ?yq47⟩) (by assumption) ?rq47
  case yq47 => (intro wq hSw; (try simp only [List.getElem_toArray, List.getElem_cons_zero, List.getElem_cons_succ]); go_simp; (try with_reducible rfl); all_goals (try omega))
  case rq47 =>
  try simp only [Act.put, List.setIfInBounds_toArray, List.set_cons_zero, List.set_cons_succ, List.getElem_toArray, List.getElem_cons_zero, List.getElem_cons_succ]
  refine wpAnyH_take (i := 7) (v := .bool true) rfl (by kernel_rfl) (by kernel_rfl) (by kernel_rfl) (fun _ _ _ h => h) (Or.inl ⟨by rfl, ?yq48⟩) (by assumption) ?rq48
  case yq48 => (intro wq hSw; (try simp only [List.getElem_toArray, List.getElem_cons_zero, List.getElem_cons_succ]); go_simp; (try with_reducible rfl); all_goals (try omega))
  case rq48 =>
  try simp only [Act.put, List.setIfInBounds_toArray, List.set_cons_zero, List.set_cons_succ, List.getElem_toArray, List.getElem_cons_zero, List.getElem_cons_succ]
  refine wpAnyH_take (i := 8) (v := .bool true) rfl (by kernel_rfl) (by kernel_rfl) (by kernel_rfl) (fun _ _ _ h => h) (Or.inl ⟨by rfl, ?yq49⟩) (by assumption) ?rq49
  case yq49 => (intro wq hSw; (try simp only [List.getElem_toArray, List.getElem_cons_zero, List.getElem_cons_succ]); go_simp; (try with_reducible rfl); all_goals (try omega))
  case rq49 =>
  try simp only [Act.put, List.setIfInBounds_toArray, List.set_cons_zero, List.set_cons_succ, List.getElem_toArray, List.getElem_cons_zero, List.getElem_cons_succ]
  refine wpAnyH_take (i := 9) (v := .bool true) rfl (by kernel_rfl) (by kernel_rfl) (by kernel_rfl) (fun _ _ _ h => h) (Or.inl ⟨by rfl, ?yq50⟩) (by assumption) ?rq50
  case yq50 => (intro wq hSw; (try simp only [List.getElem_toArray, List.getElem_cons_zero, List.getElem_cons_succ]); go_simp; (try with_reducible rfl); all_goals (try omega))
  case rq50 =>
  try simp only [Act.put, List.setIfInBounds_toArray, List.set_cons_zero, List.set_cons_succ, List.getElem_toArray, List.getElem_cons_zero, List.getElem_cons_succ]
  refine wpAnyH_take (i := 10) (v := .bool true) rfl (by kernel_rfl) (by kernel_rfl) (by kernel_rfl) (fun _ _ _ h => h) (Or.inl ⟨by rfl, ?yq51⟩) (by assumption) ?rq51
  case yq51 => (intro wq hSw; (try simp only [List.getElem_toArray, List.getElem_cons_zero, List.getElem_cons_succ]); go_simp; (try with_reducible rfl); all_goals (try omega))
  case rq51 =>
  try simp only [Act.put, List.setIfInBounds_toArray, List.set_cons_zero, List.set_cons_succ, List.getElem_toArray, List.getElem_cons_zero, List.getElem_cons_succ]
  refine wpAnyH_take (i := 11) (v := .bool true) rfl (by kernel_rfl) (by kernel_rfl) (by kernel_rfl) (fun _ _ _ h => h) (Or.inl ⟨by rfl, ?yq52⟩) (by assumption) ?rq52
  case yq52 => (intro wq hSw; (try simp only [List.getElem_toArray, List.getElem_cons_zero, List.getElem_cons_succ]); go_simp; (try with_reducible rfl); all_goals (try omega))
  case rq52 =>
  try simp only [Act.put, List.setIfInBounds_toArray, List.set_cons_zero, List.set_cons_succ, List.getElem_toArray, List.getElem_cons_zero, List.getElem_cons_succ]
  refine wpAnyH_done (by kernel_rfl) ?_ _
  clear hHeld
  go_wp2_with fail
  go_ret
  exact ⟨rfl, T3.out.trans U5.out (fun _ _ => id)⟩
set_option maxHeartbeats 4000000 in
theorem one_2 (w : World) (how : Int) (hh : how.tmod 8 = 2) : Calls Try.prog 5 #[.int .u8 how] w fun e w' => e = .returned (.bool true) ∧ Turn (fun _ => False) w w' := by
  have ho := own_alloc w oneS (by decide)
  have t1 := turn_alloc w 35 (elsV oneS)
  obtain ⟨G, hG⟩ : ∃ G, w.heap.size = G := ⟨_, rfl⟩
  obtain ⟨w1, hw1⟩ : ∃ w1, w.alloc (.cells (elsV oneS).toArray 35) = w1 := ⟨_, rfl⟩
  have hbl : ∀ ev op, op.op = .buildSlice 23 4 #[(0, .tmp 5), (1, .tmp 6), (2, .tmp 7), (3, .tmp 8)] → ev (.tmp 5) = .agg (El.mk 1 1 0 0 ({ data := #[97] } : ByteArray) 0 0 ByteArray.empty ByteArray.empty ByteArray.empty).vals.toArray → ev (.tmp 6) = .agg (El.mk 2 1 1 0 ({ data := #[98] } : ByteArray) 0 0 ByteArray.empty ByteArray.empty ByteArray.empty).vals.toArray → ev (.tmp 7) = .agg (El.mk 3 4 0 0 ByteArray.empty 0 0 ByteArray.empty ByteArray.empty ByteArray.empty).vals.toArray → ev (.tmp 8) = .agg (El.mk 4 5 0 0 ByteArray.empty 1 3 ({ data := #[101] } : ByteArray) ByteArray.empty ByteArray.empty).vals.toArray → (execOp ev op).run Try.prog w = .ok (.value (.slice (some ⟨G, 0, none⟩) 4 4)) w1 := fun ev op ho h0 h1 h2 h3 => by rw [← hw1, ← hG]; exact exec_els4 ev op _ _ _ _ ho _ _ _ _ h0 h1 h2 h3 w
  rw [hw1] at ho t1
  rw [hG] at ho
  have HO := Lib.hid (show OwV G w1 (.slice (some ⟨G, 0, none⟩) 4 4) oneS from ho)
  have T1 := Lib.hid t1
  have HBL := Lib.hid hbl
  have HG := Lib.hid hG
  clear ho t1 hw1 hbl hG
  go_enter Try.func5, Try.ntmps5
  go_wp2_with (with_reducible (show wpList _ _ _ (Oper.mk (some 5) (.build 35 _) _ _ _ _ :: _) _ _); refine still ?_)
  refine list_exec rfl _ _ (exec_el014 _ _ _ _ _ 1 1 ({ data := #[97] } : ByteArray) rfl rfl rfl rfl _) ?_
  go_wp2_with (with_reducible (show wpList _ _ _ (Oper.mk (some 6) (.build 35 _) _ _ _ _ :: _) _ _); refine still ?_)
  refine list_exec rfl _ _ (exec_el0142 _ _ _ _ _ _ 2 1 ({ data := #[98] } : ByteArray) 1 rfl rfl rfl rfl rfl _) ?_
  go_wp2_with (with_reducible (show wpList _ _ _ (Oper.mk (some 7) (.build 35 _) _ _ _ _ :: _) _ _); refine still ?_)
  refine list_exec rfl _ _ (exec_el01 _ _ _ _ 3 4 rfl rfl rfl _) ?_
  go_wp2_with (with_reducible (show wpList _ _ _ (Oper.mk (some 8) (.build 35 _) _ _ _ _ :: _) _ _); refine still ?_)
  refine list_exec rfl _ _ (exec_el01567 _ _ _ _ _ _ _ 4 5 1 3 ({ data := #[101] } : ByteArray) rfl rfl rfl rfl rfl rfl _) ?_
  go_wp2_with (with_reducible (show wpList _ _ _ (Oper.mk (some 9) (.buildSlice 23 _ _) _ _ _ _ :: _) _ _); refine still ?_)
  refine list_exec rfl _ _ (HBL.out _ _ rfl rfl rfl rfl rfl) ?_
  go_wp2_with (with_reducible (show wpList _ _ _ (Oper.mk (some 10) (.build 26 _) _ _ _ _ :: _) _ _); refine still ?_)
  refine list_exec rfl _ _ (exec_fv0 _ _ rfl _) ?_
  obtain ⟨B, hB⟩ : ∃ B, w1.heap.size = B := ⟨_, rfl⟩
  obtain ⟨wz, hwz⟩ : ∃ wz, w1.alloc (.cells (fv 0 0).toArray 26) = wz := ⟨_, rfl⟩
  have hx2 : ∀ ev op, op.op = .alloc 26 → (execOp ev op).run Try.prog w1 = .ok (.value (.pointer (some ⟨B, 0, none⟩))) wz := fun ev op ho => by rw [← hwz, ← hB]; exact exec_zero26 ev op ho _
  have hb2 := box_alloc w1 26 (fv 0 0)
  rw [hwz] at hb2
  have hh2 := hb2.heap
  rw [hB] at hh2
  have HX2 := Lib.hid hx2
  have HB2 := Lib.hid hb2
  have HH2 := Lib.hid hh2
  have HE2 := Lib.hid hB
  clear hb2 hB hwz hx2 hh2
  go_wp2_with (with_reducible (show wpList _ _ _ (Oper.mk (some 4) (.alloc 26) _ _ _ _ :: _) _ _); refine still ?_)
  refine list_exec rfl _ _ (HX2.out _ _ rfl) ?_
  go_wp2_with (with_reducible (show wpList _ _ _ (Oper.mk none (.store 26 (.tmp 4) (.tmp 10)) _ _ _ _ :: _) _ _); refine still ?_)
  refine list_put wz B 26 (fv 0 0) (fv 0 0) HH2.out rfl (fv_one _ _) fv_info rfl (.tmp 4) (.tmp 10) rfl rfl rfl (fun w2 hw2 tw2 => ?_)
  have Pw2 := Lib.hid hw2
  have Uw2 := Lib.hid (HB2.out.turn.trans tw2 (fun q hq e => by have := HE2.out; omega))
  clear hw2 tw2
  have HO2 := Lib.hid (HO.out.turn Uw2.out (fun _ _ => id))
  have T2 := Lib.hid (T1.out.trans Uw2.out (fun _ _ => id))
  have HGB := Lib.hid (show G < B ∧ w.heap.size ≤ B from by obtain ⟨g, h1, h2, h3⟩ := HO.out.at (l := oneS) rfl (by decide); injection h1 with h1; injection h1 with h1 _ _; exact ⟨by have := HE2.out; omega, by have := HE2.out; have := T1.out.size; omega⟩)
  obtain ⟨hs, hf0⟩ := own_set (base := G) HO2.out (n := 4) rfl 1 (by decide) 4 (by decide) (.string ({ data := #[97] } : ByteArray)) (El.mk 2 1 1 0 ({ data := #[97] } : ByteArray) 0 0 ByteArray.empty ByteArray.empty ByteArray.empty) rfl
  have tn : Turn (fun q => q = G) w2 (w2.setCell ⟨G, 1 * 10 + 4, none⟩ (.string ({ data := #[97] } : ByteArray))) := (Turn.refl (fun q => q = G) w2).setCell (p := ⟨G, 1 * 10 + 4, none⟩) (fun _ => rfl) _
  obtain ⟨cv0, hcv0⟩ := own_cell HO2.out (n := 4) rfl 1 (by decide) 4 (by decide)
  simp only [Nat.reduceMul, Nat.reduceAdd, Nat.zero_add] at hs hf0 tn hcv0
  obtain ⟨wn0, hwn0⟩ : ∃ n, w2.setCell ⟨G, 14, none⟩ (.string ({ data := #[97] } : ByteArray)) = n := ⟨_, rfl⟩
  rw [hwn0] at hs tn
  have HOwn0 := Lib.hid (show OwV G wn0 (.slice (some ⟨G, 0, none⟩) 4 4) [(El.mk 1 1 0 0 ({ data := #[97] } : ByteArray) 0 0 ByteArray.empty ByteArray.empty ByteArray.empty), (El.mk 2 1 1 0 ({ data := #[97] } : ByteArray) 0 0 ByteArray.empty ByteArray.empty ByteArray.empty), (El.mk 3 4 0 0 ByteArray.empty 0 0 ByteArray.empty ByteArray.empty ByteArray.empty), (El.mk 4 5 0 0 ByteArray.empty 1 3 ({ data := #[101] } : ByteArray) ByteArray.empty ByteArray.empty)] from hs)
  have Twn0 := Lib.hid (T2.out.trans tn (fun q hq e => by have := HG.out; omega))
  have Pwn0 := Lib.hid ((tn.block B (Array.getElem?_eq_some_iff.1 Pw2.out).1 (fun e => by have := HGB.out; omega)).trans Pw2.out)
  clear hs tn
  obtain ⟨hs, hf1⟩ := own_set (base := G) HOwn0.out (n := 4) rfl 1 (by decide) 2 (by decide) (.int .i64 0) (El.mk 2 1 0 0 ({ data := #[97] } : ByteArray) 0 0 ByteArray.empty ByteArray.empty ByteArray.empty) rfl
  have tn : Turn (fun q => q = G) wn0 (wn0.setCell ⟨G, 1 * 10 + 2, none⟩ (.int .i64 0)) := (Turn.refl (fun q => q = G) wn0).setCell (p := ⟨G, 1 * 10 + 2, none⟩) (fun _ => rfl) _
  obtain ⟨cv1, hcv1⟩ := own_cell HOwn0.out (n := 4) rfl 1 (by decide) 2 (by decide)
  simp only [Nat.reduceMul, Nat.reduceAdd, Nat.zero_add] at hs hf1 tn hcv1
  obtain ⟨wn1, hwn1⟩ : ∃ n, wn0.setCell ⟨G, 12, none⟩ (.int .i64 0) = n := ⟨_, rfl⟩
  rw [hwn1] at hs tn
  have HOwn1 := Lib.hid (show OwV G wn1 (.slice (some ⟨G, 0, none⟩) 4 4) [(El.mk 1 1 0 0 ({ data := #[97] } : ByteArray) 0 0 ByteArray.empty ByteArray.empty ByteArray.empty), (El.mk 2 1 0 0 ({ data := #[97] } : ByteArray) 0 0 ByteArray.empty ByteArray.empty ByteArray.empty), (El.mk 3 4 0 0 ByteArray.empty 0 0 ByteArray.empty ByteArray.empty ByteArray.empty), (El.mk 4 5 0 0 ByteArray.empty 1 3 ({ data := #[101] } : ByteArray) ByteArray.empty ByteArray.empty)] from hs)
  have Twn1 := Lib.hid (Twn0.out.trans tn (fun q hq e => by have := HG.out; omega))
  have Pwn1 := Lib.hid ((tn.block B (Array.getElem?_eq_some_iff.1 Pwn0.out).1 (fun e => by have := HGB.out; omega)).trans Pwn0.out)
  clear hs tn
  go_wp2_with (with_reducible (show wpList _ _ _ (Oper.mk (some 27) (.build 26 _) _ _ _ _ :: _) _ _); refine still ?_)
  clear hcv1 hf1 hwn1
  clear hcv0 hf0 hwn0
  refine list_exec rfl _ _ (exec_fvB _ _ _ _ 3 1 rfl rfl rfl _) ?_
  go_wp2_with (with_reducible (show wpList _ _ _ (Oper.mk none (.store 26 (.tmp 4) (.tmp 27)) _ _ _ _ :: _) _ _); refine still ?_)
  refine list_put wn1 B 26 (fv 0 0) (fv 3 1) Pwn1.out rfl (fv_one _ _) fv_info rfl (.tmp 4) (.tmp 27) rfl rfl rfl (fun w3 h3 t3 => ?_)
  have P3 := Lib.hid h3
  have T3 := Lib.hid (Twn1.out.trans t3 (fun q hq e => by have := HGB.out; omega))
  have HO3 := Lib.hid (HOwn1.out.turn t3 (fun q hq e => by have e2 : q = B := e; have e3 : G = q := Option.some.inj hq; have := HGB.out; omega))
  clear h3 t3
  go_wp2_with fail
  have HC := Lib.hid (show checkE [(El.mk 1 1 0 0 ({ data := #[97] } : ByteArray) 0 0 ByteArray.empty ByteArray.empty ByteArray.empty), (El.mk 2 1 0 0 ({ data := #[97] } : ByteArray) 0 0 ByteArray.empty ByteArray.empty ByteArray.empty), (El.mk 3 4 0 0 ByteArray.empty 0 0 ByteArray.empty ByteArray.empty ByteArray.empty), (El.mk 4 5 0 0 ByteArray.empty 1 3 ({ data := #[101] } : ByteArray) ByteArray.empty ByteArray.empty)] = (3, 1) from by decide +kernel)
  refine wp_region_held_drew (S := fun wq => wq.rangeAt B 0 (fv 3 1)) (by kernel_rfl) (range_of P3.out) (fun hHeld => ?_)
  refine wpAnyH_ready (rs := [0]) (by kernel_rfl) (by simp) ?_
  refine AllReadyH.cons rfl (fun K hK => ?_) AllReadyH.nil
  go_simp
  refine (awake_any w3.drew).mono ?_
  rintro r w4 ⟨rfl, t4⟩
  have U4 := Lib.hid (show Turn (fun _ => False) w3 w4 from (Turn.refl (fun _ => False) w3).drew.trans t4 (fun _ _ => id))
  clear t4
  refine hK.out _ _ (rangeAt_turn (range_of P3.out) U4.out id) (fun _ => ?_)
  clear hK K
  try simp only [Act.put, List.setIfInBounds_toArray, List.set_cons_zero, List.set_cons_succ, List.getElem_toArray, List.getElem_cons_zero, List.getElem_cons_succ]
  refine wpAnyH_take (i := 1) (v := .bool true) rfl (by kernel_rfl) (by kernel_rfl) (by kernel_rfl) (fun _ _ _ h => h) (Or.inl ⟨by rfl, ?yq53⟩) (by assumption) ?rq53
  case yq53 => (intro wq hSw; (try simp only [List.getElem_toArray, List.getElem_cons_zero, List.getElem_cons_succ]); go_simp; (try with_reducible rfl); all_goals (try omega))
  case rq53 =>
  try simp only [Act.put, List.setIfInBounds_toArray, List.set_cons_zero, List.set_cons_succ, List.getElem_toArray, List.getElem_cons_zero, List.getElem_cons_succ]
  refine wpAnyH_take (i := 2) (v := .slice (some ⟨G, 0, none⟩) 4 4) rfl (by kernel_rfl) (by kernel_rfl) (by kernel_rfl) (fun _ _ _ h => h) (Or.inl ⟨by rfl, ?yq54⟩) (by assumption) ?rq54
  case yq54 => (intro wq hSw; (try simp only [List.getElem_toArray, List.getElem_cons_zero, List.getElem_cons_succ]); go_simp; (try with_reducible rfl); all_goals (try omega))
  case rq54 =>
  try simp only [Act.put, List.setIfInBounds_toArray, List.set_cons_zero, List.set_cons_succ, List.getElem_toArray, List.getElem_cons_zero, List.getElem_cons_succ]
  refine wpAnyH_take (i := 4) (v := .agg (fv 3 1).toArray) rfl (by kernel_rfl) (by kernel_rfl) (by kernel_rfl) (fun _ _ _ h => h) (Or.inl ⟨by rfl, ?yq55⟩) (by assumption) ?rq55
  case yq55 => (intro wq hSw; exact exec_load_mid _ _ 26 (.tmp 4) rfl B 0 rfl (fv 3 1) _ wq hSw Try.underlying26 rfl fv_info)
  case rq55 =>
  try simp only [Act.put, List.setIfInBounds_toArray, List.set_cons_zero, List.set_cons_succ, List.getElem_toArray, List.getElem_cons_zero, List.getElem_cons_succ]
  refine wpAnyH_ready (rs := [3]) (by kernel_rfl) (by simp) ?_
  refine AllReadyH.cons rfl (fun K hK => ?_) AllReadyH.nil
  go_simp
  refine (rcheck_any w4 _ [(El.mk 1 1 0 0 ({ data := #[97] } : ByteArray) 0 0 ByteArray.empty ByteArray.empty ByteArray.empty), (El.mk 2 1 0 0 ({ data := #[97] } : ByteArray) 0 0 ByteArray.empty ByteArray.empty ByteArray.empty), (El.mk 3 4 0 0 ByteArray.empty 0 0 ByteArray.empty ByteArray.empty ByteArray.empty), (El.mk 4 5 0 0 ByteArray.empty 1 3 ({ data := #[101] } : ByteArray) ByteArray.empty ByteArray.empty)] (HO3.out.turn U4.out (fun _ _ => id)).row (by decide)).mono ?_
  rw [HC.out]
  rintro r w5 ⟨rfl, t5⟩
  have U5 := Lib.hid (U4.out.trans t5 (fun _ _ => id))
  clear t5
  refine hK.out _ _ (rangeAt_turn (range_of P3.out) U5.out id) (fun _ => ?_)
  clear hK K
  try simp only [Act.put, List.setIfInBounds_toArray, List.set_cons_zero, List.set_cons_succ, List.getElem_toArray, List.getElem_cons_zero, List.getElem_cons_succ]
  refine wpAnyH_take (i := 5) (v := .bool true) rfl (by kernel_rfl) (by kernel_rfl) (by kernel_rfl) (fun _ _ _ h => h) (Or.inl ⟨by rfl, ?yq56⟩) (by assumption) ?rq56
  case yq56 => (intro wq hSw; exact exec_eql_fv1 _ _ rfl 3 1 _ rfl rfl)
  case rq56 =>
  try simp only [Act.put, List.setIfInBounds_toArray, List.set_cons_zero, List.set_cons_succ, List.getElem_toArray, List.getElem_cons_zero, List.getElem_cons_succ]
  refine wpAnyH_take (i := 6) (v := .bool true) rfl (by kernel_rfl) (by kernel_rfl) (by kernel_rfl) (fun _ _ _ h => h) (Or.inl ⟨by rfl, ?yq57⟩) (by assumption) ?rq57
  case yq57 => (intro wq hSw; (try simp only [List.getElem_toArray, List.getElem_cons_zero, List.getElem_cons_succ]); go_simp; (try with_reducible rfl); all_goals (try omega))
  case rq57 =>
  try simp only [Act.put, List.setIfInBounds_toArray, List.set_cons_zero, List.set_cons_succ, List.getElem_toArray, List.getElem_cons_zero, List.getElem_cons_succ]
  refine wpAnyH_take (i := 7) (v := .bool true) rfl (by kernel_rfl) (by kernel_rfl) (by kernel_rfl) (fun _ _ _ h => h) (Or.inl ⟨by rfl, ?yq58⟩) (by assumption) ?rq58
  case yq58 => (intro wq hSw; (try simp only [List.getElem_toArray, List.getElem_cons_zero, List.getElem_cons_succ]); go_simp; (try with_reducible rfl); all_goals (try omega))
  case rq58 =>
  try simp only [Act.put, List.setIfInBounds_toArray, List.set_cons_zero, List.set_cons_succ, List.getElem_toArray, List.getElem_cons_zero, List.getElem_cons_succ]
  refine wpAnyH_take (i := 8) (v := .bool true) rfl (by kernel_rfl) (by kernel_rfl) (by kernel_rfl) (fun _ _ _ h => h) (Or.inl ⟨by rfl, ?yq59⟩) (by assumption) ?rq59
  case yq59 => (intro wq hSw; (try simp only [List.getElem_toArray, List.getElem_cons_zero, List.getElem_cons_succ]); go_simp; (try with_reducible rfl); all_goals (try omega))
  case rq59 =>
  try simp only [Act.put, List.setIfInBounds_toArray, List.set_cons_zero, List.set_cons_succ, List.getElem_toArray, List.getElem_cons_zero, List.getElem_cons_succ]
  refine wpAnyH_take (i := 9) (v := .bool true) rfl (by kernel_rfl) (by kernel_rfl) (by kernel_rfl) (fun _ _ _ h => h) (Or.inl ⟨by rfl, ?yq60⟩) (by assumption) ?rq60
  case yq60 => (intro wq hSw; (try simp only [List.getElem_toArray, List.getElem_cons_zero, List.getElem_cons_succ]); go_simp; (try with_reducible rfl); all_goals (try omega))
  case rq60 =>
  try simp only [Act.put, List.setIfInBounds_toArray, List.set_cons_zero, List.set_cons_succ, List.getElem_toArray, List.getElem_cons_zero, List.getElem_cons_succ]
  refine wpAnyH_take (i := 10) (v := .bool true) rfl (by kernel_rfl) (by kernel_rfl) (by kernel_rfl) (fun _ _ _ h => h) (Or.inl ⟨by rfl, ?yq61⟩) (by assumption) ?rq61
  case yq61 => (intro wq hSw; (try simp only [List.getElem_toArray, List.getElem_cons_zero, List.getElem_cons_succ]); go_simp; (try with_reducible rfl); all_goals (try omega))
  case rq61 =>
  try simp only [Act.put, List.setIfInBounds_toArray, List.set_cons_zero, List.set_cons_succ, List.getElem_toArray, List.getElem_cons_zero, List.getElem_cons_succ]
  refine wpAnyH_take (i := 11) (v := .bool true) rfl (by kernel_rfl) (by kernel_rfl) (by kernel_rfl) (fun _ _ _ h => h) (Or.inl ⟨by rfl, ?yq62⟩) (by assumption) ?rq62
  case yq62 => (intro wq hSw; (try simp only [List.getElem_toArray, List.getElem_cons_zero, List.getElem_cons_succ]); go_simp; (try with_reducible rfl); all_goals (try omega))
  case rq62 =>
  try simp only [Act.put, List.setIfInBounds_toArray, List.set_cons_zero, List.set_cons_succ, List.getElem_toArray, List.getElem_cons_zero, List.getElem_cons_succ]
  refine wpAnyH_done (by kernel_rfl) ?_ _
  clear hHeld
  go_wp2_with fail
  go_ret
  exact ⟨rfl, T3.out.trans U5.out (fun _ _ => id)⟩
set_option maxHeartbeats 4000000 in
theorem one_3 (w : World) (how : Int) (hh : how.tmod 8 = 3) : Calls Try.prog 5 #[.int .u8 how] w fun e w' => e = .returned (.bool true) ∧ Turn (fun _ => False) w w' := by
  have ho := own_alloc w oneS (by decide)
  have t1 := turn_alloc w 35 (elsV oneS)
  obtain ⟨G, hG⟩ : ∃ G, w.heap.size = G := ⟨_, rfl⟩
  obtain ⟨w1, hw1⟩ : ∃ w1, w.alloc (.cells (elsV oneS).toArray 35) = w1 := ⟨_, rfl⟩
  have hbl : ∀ ev op, op.op = .buildSlice 23 4 #[(0, .tmp 5), (1, .tmp 6), (2, .tmp 7), (3, .tmp 8)] → ev (.tmp 5) = .agg (El.mk 1 1 0 0 ({ data := #[97] } : ByteArray) 0 0 ByteArray.empty ByteArray.empty ByteArray.empty).vals.toArray → ev (.tmp 6) = .agg (El.mk 2 1 1 0 ({ data := #[98] } : ByteArray) 0 0 ByteArray.empty ByteArray.empty ByteArray.empty).vals.toArray → ev (.tmp 7) = .agg (El.mk 3 4 0 0 ByteArray.empty 0 0 ByteArray.empty ByteArray.empty ByteArray.empty).vals.toArray → ev (.tmp 8) = .agg (El.mk 4 5 0 0 ByteArray.empty 1 3 ({ data := #[101] } : ByteArray) ByteArray.empty ByteArray.empty).vals.toArray → (execOp ev op).run Try.prog w = .ok (.value (.slice (some ⟨G, 0, none⟩) 4 4)) w1 := fun ev op ho h0 h1 h2 h3 => by rw [← hw1, ← hG]; exact exec_els4 ev op _ _ _ _ ho _ _ _ _ h0 h1 h2 h3 w
  rw [hw1] at ho t1
  rw [hG] at ho
  have HO := Lib.hid (show OwV G w1 (.slice (some ⟨G, 0, none⟩) 4 4) oneS from ho)
  have T1 := Lib.hid t1
  have HBL := Lib.hid hbl
  have HG := Lib.hid hG
  clear ho t1 hw1 hbl hG
  go_enter Try.func5, Try.ntmps5
  go_wp2_with (with_reducible (show wpList _ _ _ (Oper.mk (some 5) (.build 35 _) _ _ _ _ :: _) _ _); refine still ?_)
  refine list_exec rfl _ _ (exec_el014 _ _ _ _ _ 1 1 ({ data := #[97] } : ByteArray) rfl rfl rfl rfl _) ?_
  go_wp2_with (with_reducible (show wpList _ _ _ (Oper.mk (some 6) (.build 35 _) _ _ _ _ :: _) _ _); refine still ?_)
  refine list_exec rfl _ _ (exec_el0142 _ _ _ _ _ _ 2 1 ({ data := #[98] } : ByteArray) 1 rfl rfl rfl rfl rfl _) ?_
  go_wp2_with (with_reducible (show wpList _ _ _ (Oper.mk (some 7) (.build 35 _) _ _ _ _ :: _) _ _); refine still ?_)
  refine list_exec rfl _ _ (exec_el01 _ _ _ _ 3 4 rfl rfl rfl _) ?_
  go_wp2_with (with_reducible (show wpList _ _ _ (Oper.mk (some 8) (.build 35 _) _ _ _ _ :: _) _ _); refine still ?_)
  refine list_exec rfl _ _ (exec_el01567 _ _ _ _ _ _ _ 4 5 1 3 ({ data := #[101] } : ByteArray) rfl rfl rfl rfl rfl rfl _) ?_
  go_wp2_with (with_reducible (show wpList _ _ _ (Oper.mk (some 9) (.buildSlice 23 _ _) _ _ _ _ :: _) _ _); refine still ?_)
  refine list_exec rfl _ _ (HBL.out _ _ rfl rfl rfl rfl rfl) ?_
  go_wp2_with (with_reducible (show wpList _ _ _ (Oper.mk (some 10) (.build 26 _) _ _ _ _ :: _) _ _); refine still ?_)
  refine list_exec rfl _ _ (exec_fv0 _ _ rfl _) ?_
  obtain ⟨B, hB⟩ : ∃ B, w1.heap.size = B := ⟨_, rfl⟩
  obtain ⟨wz, hwz⟩ : ∃ wz, w1.alloc (.cells (fv 0 0).toArray 26) = wz := ⟨_, rfl⟩
  have hx2 : ∀ ev op, op.op = .alloc 26 → (execOp ev op).run Try.prog w1 = .ok (.value (.pointer (some ⟨B, 0, none⟩))) wz := fun ev op ho => by rw [← hwz, ← hB]; exact exec_zero26 ev op ho _
  have hb2 := box_alloc w1 26 (fv 0 0)
  rw [hwz] at hb2
  have hh2 := hb2.heap
  rw [hB] at hh2
  have HX2 := Lib.hid hx2
  have HB2 := Lib.hid hb2
  have HH2 := Lib.hid hh2
  have HE2 := Lib.hid hB
  clear hb2 hB hwz hx2 hh2
  go_wp2_with (with_reducible (show wpList _ _ _ (Oper.mk (some 4) (.alloc 26) _ _ _ _ :: _) _ _); refine still ?_)
  refine list_exec rfl _ _ (HX2.out _ _ rfl) ?_
  go_wp2_with (with_reducible (show wpList _ _ _ (Oper.mk none (.store 26 (.tmp 4) (.tmp 10)) _ _ _ _ :: _) _ _); refine still ?_)
  refine list_put wz B 26 (fv 0 0) (fv 0 0) HH2.out rfl (fv_one _ _) fv_info rfl (.tmp 4) (.tmp 10) rfl rfl rfl (fun w2 hw2 tw2 => ?_)
  have Pw2 := Lib.hid hw2
  have Uw2 := Lib.hid (HB2.out.turn.trans tw2 (fun q hq e => by have := HE2.out; omega))
  clear hw2 tw2
  have HO2 := Lib.hid (HO.out.turn Uw2.out (fun _ _ => id))
  have T2 := Lib.hid (T1.out.trans Uw2.out (fun _ _ => id))
  have HGB := Lib.hid (show G < B ∧ w.heap.size ≤ B from by obtain ⟨g, h1, h2, h3⟩ := HO.out.at (l := oneS) rfl (by decide); injection h1 with h1; injection h1 with h1 _ _; exact ⟨by have := HE2.out; omega, by have := HE2.out; have := T1.out.size; omega⟩)
  obtain ⟨hs, hf0⟩ := own_set (base := G) HO2.out (n := 4) rfl 1 (by decide) 2 (by decide) (.int .i64 3) (El.mk 2 1 3 0 ({ data := #[98] } : ByteArray) 0 0 ByteArray.empty ByteArray.empty ByteArray.empty) rfl
  have tn : Turn (fun q => q = G) w2 (w2.setCell ⟨G, 1 * 10 + 2, none⟩ (.int .i64 3)) := (Turn.refl (fun q => q = G) w2).setCell (p := ⟨G, 1 * 10 + 2, none⟩) (fun _ => rfl) _
  obtain ⟨cv0, hcv0⟩ := own_cell HO2.out (n := 4) rfl 1 (by decide) 2 (by decide)
  simp only [Nat.reduceMul, Nat.reduceAdd, Nat.zero_add] at hs hf0 tn hcv0
  obtain ⟨wn0, hwn0⟩ : ∃ n, w2.setCell ⟨G, 12, none⟩ (.int .i64 3) = n := ⟨_, rfl⟩
  rw [hwn0] at hs tn
  have HOwn0 := Lib.hid (show OwV G wn0 (.slice (some ⟨G, 0, none⟩) 4 4) [(El.mk 1 1 0 0 ({ data := #[97] } : ByteArray) 0 0 ByteArray.empty ByteArray.empty ByteArray.empty), (El.mk 2 1 3 0 ({ data := #[98] } : ByteArray) 0 0 ByteArray.empty ByteArray.empty ByteArray.empty), (El.mk 3 4 0 0 ByteArray.empty 0 0 ByteArray.empty ByteArray.empty ByteArray.empty), (El.mk 4 5 0 0 ByteArray.empty 1 3 ({ data := #[101] } : ByteArray) ByteArray.empty ByteArray.empty)] from hs)
  have Twn0 := Lib.hid (T2.out.trans tn (fun q hq e => by have := HG.out; omega))
  have Pwn0 := Lib.hid ((tn.block B (Array.getElem?_eq_some_iff.1 Pw2.out).1 (fun e => by have := HGB.out; omega)).trans Pw2.out)
  clear hs tn
  go_wp2_with (with_reducible (show wpList _ _ _ (Oper.mk (some 33) (.build 26 _) _ _ _ _ :: _) _ _); refine still ?_)
  clear hcv0 hf0 hwn0
  refine list_exec rfl _ _ (exec_fvB _ _ _ _ 4 2 rfl rfl rfl _) ?_
  go_wp2_with (with_reducible (show wpList _ _ _ (Oper.mk none (.store 26 (.tmp 4) (.tmp 33)) _ _ _ _ :: _) _ _); refine still ?_)
  refine list_put wn0 B 26 (fv 0 0) (fv 4 2) Pwn0.out rfl (fv_one _ _) fv_info rfl (.tmp 4) (.tmp 33) rfl rfl rfl (fun w3 h3 t3 => ?_)
  have P3 := Lib.hid h3
  have T3 := Lib.hid (Twn0.out.trans t3 (fun q hq e => by have := HGB.out; omega))
  have HO3 := Lib.hid (HOwn0.out.turn t3 (fun q hq e => by have e2 : q = B := e; have e3 : G = q := Option.some.inj hq; have := HGB.out; omega))
  clear h3 t3
  go_wp2_with fail
  have HC := Lib.hid (show checkE [(El.mk 1 1 0 0 ({ data := #[97] } : ByteArray) 0 0 ByteArray.empty ByteArray.empty ByteArray.empty), (El.mk 2 1 3 0 ({ data := #[98] } : ByteArray) 0 0 ByteArray.empty ByteArray.empty ByteArray.empty), (El.mk 3 4 0 0 ByteArray.empty 0 0 ByteArray.empty ByteArray.empty ByteArray.empty), (El.mk 4 5 0 0 ByteArray.empty 1 3 ({ data := #[101] } : ByteArray) ByteArray.empty ByteArray.empty)] = (4, 2) from by decide +kernel)
  refine wp_region_held_drew (S := fun wq => wq.rangeAt B 0 (fv 4 2)) (by kernel_rfl) (range_of P3.out) (fun hHeld => ?_)
  refine wpAnyH_ready (rs := [0]) (by kernel_rfl) (by simp) ?_
  refine AllReadyH.cons rfl (fun K hK => ?_) AllReadyH.nil
  go_simp
  refine (awake_any w3.drew).mono ?_
  rintro r w4 ⟨rfl, t4⟩
  have U4 := Lib.hid (show Turn (fun _ => False) w3 w4 from (Turn.refl (fun _ => False) w3).drew.trans t4 (fun _ _ => id))
  clear t4
  refine hK.out _ _ (rangeAt_turn (range_of P3.out) U4.out id) (fun _ => ?_)
  clear hK K
  try simp only [Act.put, List.setIfInBounds_toArray, List.set_cons_zero, List.set_cons_succ, List.getElem_toArray, List.getElem_cons_zero, List.getElem_cons_succ]
  refine wpAnyH_take (i := 1) (v := .bool true) rfl (by kernel_rfl) (by kernel_rfl) (by kernel_rfl) (fun _ _ _ h => h) (Or.inl ⟨by rfl, ?yq63⟩) (by assumption) ?rq63
  case yq63 => (intro wq hSw; (try simp only [List.getElem_toArray, List.getElem_cons_zero, List.getElem_cons_succ]); go_simp; (try with_reducible rfl); all_goals (try omega))
  case rq63 =>
  try simp only [Act.put, List.setIfInBounds_toArray, List.set_cons_zero, List.set_cons_succ, List.getElem_toArray, List.getElem_cons_zero, List.getElem_cons_succ]
  refine wpAnyH_take (i := 2) (v := .slice (some ⟨G, 0, none⟩) 4 4) rfl (by kernel_rfl) (by kernel_rfl) (by kernel_rfl) (fun _ _ _ h => h) (Or.inl ⟨by rfl, ?yq64⟩) (by assumption) ?rq64
  case yq64 => (intro wq hSw; (try simp only [List.getElem_toArray, List.getElem_cons_zero, List.getElem_cons_succ]); go_simp; (try with_reducible rfl); all_goals (try omega))
  case rq64 =>
  try simp only [Act.put, List.setIfInBounds_toArray, List.set_cons_zero, List.set_cons_succ, List.getElem_toArray, List.getElem_cons_zero, List.getElem_cons_succ]
  refine wpAnyH_take (i := 4) (v := .agg (fv 4 2).toArray) rfl (by kernel_rfl) (by kernel_rfl) (by kernel_rfl) (fun _ _ _ h => h) (Or.inl ⟨by rfl, ?yq65⟩) (by assumption) ?rq65
  case yq65 => (intro wq hSw; exact exec_load_mid _ _ 26 (.tmp 4) rfl B 0 rfl (fv 4 2) _ wq hSw Try.underlying26 rfl fv_info)
  case rq65 =>
  try simp only [Act.put, List.setIfInBounds_toArray, List.set_cons_zero, List.set_cons_succ, List.getElem_toArray, List.getElem_cons_zero, List.getElem_cons_succ]
  refine wpAnyH_ready (rs := [3]) (by kernel_rfl) (by simp) ?_
  refine AllReadyH.cons rfl (fun K hK => ?_) AllReadyH.nil
  go_simp
  refine (rcheck_any w4 _ [(El.mk 1 1 0 0 ({ data := #[97] } : ByteArray) 0 0 ByteArray.empty ByteArray.empty ByteArray.empty), (El.mk 2 1 3 0 ({ data := #[98] } : ByteArray) 0 0 ByteArray.empty ByteArray.empty ByteArray.empty), (El.mk 3 4 0 0 ByteArray.empty 0 0 ByteArray.empty ByteArray.empty ByteArray.empty), (El.mk 4 5 0 0 ByteArray.empty 1 3 ({ data := #[101] } : ByteArray) ByteArray.empty ByteArray.empty)] (HO3.out.turn U4.out (fun _ _ => id)).row (by decide)).mono ?_
  rw [HC.out]
  rintro r w5 ⟨rfl, t5⟩
  have U5 := Lib.hid (U4.out.trans t5 (fun _ _ => id))
  clear t5
  refine hK.out _ _ (rangeAt_turn (range_of P3.out) U5.out id) (fun _ => ?_)
  clear hK K
  try simp only [Act.put, List.setIfInBounds_toArray, List.set_cons_zero, List.set_cons_succ, List.getElem_toArray, List.getElem_cons_zero, List.getElem_cons_succ]
  refine wpAnyH_take (i := 5) (v := .bool true) rfl (by kernel_rfl) (by kernel_rfl) (by kernel_rfl) (fun _ _ _ h => h) (Or.inl ⟨by rfl, ?yq66⟩) (by assumption) ?rq66
  case yq66 => (intro wq hSw; exact exec_eql_fv1 _ _ rfl 4 2 _ rfl rfl)
  case rq66 =>
  try simp only [Act.put, List.setIfInBounds_toArray, List.set_cons_zero, List.set_cons_succ, List.getElem_toArray, List.getElem_cons_zero, List.getElem_cons_succ]
  refine wpAnyH_take (i := 6) (v := .bool true) rfl (by kernel_rfl) (by kernel_rfl) (by kernel_rfl) (fun _ _ _ h => h) (Or.inl ⟨by rfl, ?yq67⟩) (by assumption) ?rq67
  case yq67 => (intro wq hSw; (try simp only [List.getElem_toArray, List.getElem_cons_zero, List.getElem_cons_succ]); go_simp; (try with_reducible rfl); all_goals (try omega))
  case rq67 =>
  try simp only [Act.put, List.setIfInBounds_toArray, List.set_cons_zero, List.set_cons_succ, List.getElem_toArray, List.getElem_cons_zero, List.getElem_cons_succ]
  refine wpAnyH_take (i := 7) (v := .bool true) rfl (by kernel_rfl) (by kernel_rfl) (by kernel_rfl) (fun _ _ _ h => h) (Or.inl ⟨by rfl, ?yq68⟩) (by assumption) ?rq68
  case yq68 => (intro wq hSw; (try simp only [List.getElem_toArray, List.getElem_cons_zero, List.getElem_cons_succ]); go_simp; (try with_reducible rfl); all_goals (try omega))
  case rq68 =>
  try simp only [Act.put, List.setIfInBounds_toArray, List.set_cons_zero, List.set_cons_succ, List.getElem_toArray, List.getElem_cons_zero, List.getElem_cons_succ]
  refine wpAnyH_take (i := 8) (v := .bool true) rfl (by kernel_rfl) (by kernel_rfl) (by kernel_rfl) (fun _ _ _ h => h) (Or.inl ⟨by rfl, ?yq69⟩) (by assumption) ?rq69
  case yq69 => (intro wq hSw; (try simp only [List.getElem_toArray, List.getElem_cons_zero, List.getElem_cons_succ]); go_simp; (try with_reducible rfl); all_goals (try omega))
  case rq69 =>
  try simp only [Act.put, List.setIfInBounds_toArray, List.set_cons_zero, List.set_cons_succ, List.getElem_toArray, List.getElem_cons_zero, List.getElem_cons_succ]
  refine wpAnyH_take (i := 9) (v := .bool true) rfl (by kernel_rfl) (by kernel_rfl) (by kernel_rfl) (fun _ _ _ h => h) (Or.inl ⟨by rfl, ?yq70⟩) (by assumption) ?rq70
  case yq70 => (intro wq hSw; (try simp only [List.getElem_toArray, List.getElem_cons_zero, List.getElem_cons_succ]); go_simp; (try with_reducible rfl); all_goals (try omega))
  case rq70 =>
  try simp only [Act.put, List.setIfInBounds_toArray, List.set_cons_zero, List.set_cons_succ, List.getElem_toArray, List.getElem_cons_zero, List.getElem_cons_succ]
  refine wpAnyH_take (i := 10) (v := .bool true) rfl (by kernel_rfl) (by kernel_rfl) (by kernel_rfl) (fun _ _ _ h => h) (Or.inl ⟨by rfl, ?yq71⟩) (by assumption) ?rq71
  case yq71 => (intro wq hSw; (try simp only [List.getElem_toArray, List.getElem_cons_zero, List.getElem_cons_succ]); go_simp; (try with_reducible rfl); all_goals (try omega))
  case rq71 =>
  try simp only [Act.put, List.setIfInBounds_toArray, List.set_cons_zero, List.set_cons_succ, List.getElem_toArray, List.getElem_cons_zero, List.getElem_cons_succ]
  refine wpAnyH_take (i := 11) (v := .bool true) rfl (by kernel_rfl) (by kernel_rfl) (by kernel_rfl) (fun _ _ _ h => h) (Or.inl ⟨by rfl, ?yq72⟩) (by assumption) ?rq72
  case yq72 => (intro wq hSw; (try simp only [List.getElem_toArray, List.getElem_cons_zero, List.getElem_cons_succ]); go_simp; (try with_reducible rfl); all_goals (try omega))
  case rq72 =>
  try simp only [Act.put, List.setIfInBounds_toArray, List.set_cons_zero, List.set_cons_succ, List.getElem_toArray, List.getElem_cons_zero, List.getElem_cons_succ]
  refine wpAnyH_done (by kernel_rfl) ?_ _
  clear hHeld
  go_wp2_with fail
  go_ret
  exact ⟨rfl, T3.out.trans U5.out (fun _ _ => id)⟩

end Go.Proofs.Ytifhnidcodhoeaa
