/- Own contracts: one: cases. No statement is proved here. -/
import Derived.Test.YtifhnidcodhoeaaOka
namespace Go.Proofs.Ytifhnidcodhoeaa
set_option maxRecDepth 100000
open Go.RowKit
set_option linter.unusedVariables false
set_option linter.unusedSimpArgs false

set_option maxHeartbeats 4000000 in
theorem one_4 (w : World) (how : Int) (hh : how.tmod 8 = 4) : Calls Try.prog 5 #[.int .u8 how] w fun e w' => e = .returned (.bool true) ∧ Turn (fun _ => False) w w' := by
  have ho := own_alloc w oneS (by decide)
  have t1 := turn_alloc w 35 (elsV oneS)
  obtain ⟨G, hG⟩ : ∃ G, w.heap.size = G := ⟨_, rfl⟩
  obtain ⟨w1, hw1⟩ : ∃ w1, w.alloc (.cells (elsV oneS).toArray 35) = w1 := ⟨_, rfl⟩
  have hbl : ∀ ev op, op.op = .buildSlice 23 4 #[(0, .tmp 5), (1, .tmp 6), (2, .tmp 7), (3, .tmp 8)] → ev (.tmp 5) = .agg (El.mk 1 1 0 0 ({ data := #[97] } : ByteArray) 0 0 ByteArray.empty ByteArray.empty ByteArray.empty).vals.toArray → ev (.tmp 6) = .agg (El.mk 2 1 1 0 ({ data := #[98] } : ByteArray) 0 0 ByteArray.empty ByteArray.empty ByteArray.empty).vals.toArray → ev (.tmp 7) = .agg (El.mk 3 4 0 0 ByteArray.empty 0 0 ByteArray.empty ByteArray.empty ByteArray.empty).vals.toArray → ev (.tmp 8) = .agg (El.mk 4 5 0 0 ByteArray.empty 1 3 ({ data := #[101] } : ByteArray) ByteArray.empty ByteArray.empty).vals.toArray → (execOp ev op).run Try.prog w = .ok (.value (.slice (some ⟨G, 0, none⟩) 4 4)) w1 := fun ev op ho h0 h1 h2 h3 => by rw [← hw1, ← hG]; exact exec_els4 ev op _ _ _ _ ho _ _ _ _ h0 h1 h2 h3 w
  rw [hw1] at ho t1
  rw [hG] at ho
  have HO := Lib.hid (show OwV G w1 (.slice (some ⟨G, 0, none⟩) 4 4) oneS from ho)
  have T1 := Lib.hid t1
  have HBL := Lib.hid hbl
  have HG := Lib.hid hG
  clear ho t1 hw1 hbl hG
  go_enter Try.func5, Try.ntmps5
  go_wp2_with (with_reducible (show wpList _ _ _ (Oper.mk (some 5) (.build 35 _) _ _ _ _ :: _) _ _); refine still ?_)
  refine list_exec rfl _ _ (exec_el014 _ _ _ _ _ 1 1 ({ data := #[97] } : ByteArray) rfl rfl rfl rfl _) ?_
  go_wp2_with (with_reducible (show wpList _ _ _ (Oper.mk (some 6) (.build 35 _) _ _ _ _ :: _) _ _); refine still ?_)
  refine list_exec rfl _ _ (exec_el0142 _ _ _ _ _ _ 2 1 ({ data := #[98] } : ByteArray) 1 rfl rfl rfl rfl rfl _) ?_
  go_wp2_with (with_reducible (show wpList _ _ _ (Oper.mk (some 7) (.build 35 _) _ _ _ _ :: _) _ _); refine still ?_)
  refine list_exec rfl _ _ (exec_el01 _ _ _ _ 3 4 rfl rfl rfl _) ?_
  go_wp2_with (with_reducible (show wpList _ _ _ (Oper.mk (some 8) (.build 35 _) _ _ _ _ :: _) _ _); refine still ?_)
  refine list_exec rfl _ _ (exec_el01567 _ _ _ _ _ _ _ 4 5 1 3 ({ data := #[101] } : ByteArray) rfl rfl rfl rfl rfl rfl _) ?_
  go_wp2_with (with_reducible (show wpList _ _ _ (Oper.mk (some 9) (.buildSlice 23 _ _) _ _ _ _ :: _) _ _); refine still ?_)
  refine list_exec rfl _ _ (HBL.out _ _ rfl rfl rfl rfl rfl) ?_
  go_wp2_with (with_reducible (show wpList _ _ _ (Oper.mk (some 10) (.build 26 _) _ _ _ _ :: _) _ _); refine still ?_)
  refine list_exec rfl _ _ (exec_fv0 _ _ rfl _) ?_
  obtain ⟨B, hB⟩ : ∃ B, w1.heap.size = B := ⟨_, rfl⟩
  obtain ⟨wz, hwz⟩ : ∃ wz, w1.alloc (.cells (fv 0 0).toArray 26) = wz := ⟨_, rfl⟩
  have hx2 : ∀ ev op, op.op = .alloc 26 → (execOp ev op).run Try.prog w1 = .ok (.value (.pointer (some ⟨B, 0, none⟩))) wz := fun ev op ho => by rw [← hwz, ← hB]; exact exec_zero26 ev op ho _
  have hb2 := box_alloc w1 26 (fv 0 0)
  rw [hwz] at hb2
  have hh2 := hb2.heap
  rw [hB] at hh2
  have HX2 := Lib.hid hx2
  have HB2 := Lib.hid hb2
  have HH2 := Lib.hid hh2
  have HE2 := Lib.hid hB
  clear hb2 hB hwz hx2 hh2
  go_wp2_with (with_reducible (show wpList _ _ _ (Oper.mk (some 4) (.alloc 26) _ _ _ _ :: _) _ _); refine still ?_)
  refine list_exec rfl _ _ (HX2.out _ _ rfl) ?_
  go_wp2_with (with_reducible (show wpList _ _ _ (Oper.mk none (.store 26 (.tmp 4) (.tmp 10)) _ _ _ _ :: _) _ _); refine still ?_)
  refine list_put wz B 26 (fv 0 0) (fv 0 0) HH2.out rfl (fv_one _ _) fv_info rfl (.tmp 4) (.tmp 10) rfl rfl rfl (fun w2 hw2 tw2 => ?_)
  have Pw2 := Lib.hid hw2
  have Uw2 := Lib.hid (HB2.out.turn.trans tw2 (fun q hq e => by have := HE2.out; omega))
  clear hw2 tw2
  have HO2 := Lib.hid (HO.out.turn Uw2.out (fun _ _ => id))
  have T2 := Lib.hid (T1.out.trans Uw2.out (fun _ _ => id))
  have HGB := Lib.hid (show G < B ∧ w.heap.size ≤ B from by obtain ⟨g, h1, h2, h3⟩ := HO.out.at (l := oneS) rfl (by decide); injection h1 with h1; injection h1 with h1 _ _; exact ⟨by have := HE2.out; omega, by have := HE2.out; have := T1.out.size; omega⟩)
  obtain ⟨hs, hf0⟩ := own_set (base := G) HO2.out (n := 4) rfl 0 (by decide) 2 (by decide) (.int .i64 2) (El.mk 1 1 2 0 ({ data := #[97] } : ByteArray) 0 0 ByteArray.empty ByteArray.empty ByteArray.empty) rfl
  have tn : Turn (fun q => q = G) w2 (w2.setCell ⟨G, 0 * 10 + 2, none⟩ (.int .i64 2)) := (Turn.refl (fun q => q = G) w2).setCell (p := ⟨G, 0 * 10 + 2, none⟩) (fun _ => rfl) _
  obtain ⟨cv0, hcv0⟩ := own_cell HO2.out (n := 4) rfl 0 (by decide) 2 (by decide)
  simp only [Nat.reduceMul, Nat.reduceAdd, Nat.zero_add] at hs hf0 tn hcv0
  obtain ⟨wn0, hwn0⟩ : ∃ n, w2.setCell ⟨G, 2, none⟩ (.int .i64 2) = n := ⟨_, rfl⟩
  rw [hwn0] at hs tn
  have HOwn0 := Lib.hid (show OwV G wn0 (.slice (some ⟨G, 0, none⟩) 4 4) [(El.mk 1 1 2 0 ({ data := #[97] } : ByteArray) 0 0 ByteArray.empty ByteArray.empty ByteArray.empty), (El.mk 2 1 1 0 ({ data := #[98] } : ByteArray) 0 0 ByteArray.empty ByteArray.empty ByteArray.empty), (El.mk 3 4 0 0 ByteArray.empty 0 0 ByteArray.empty ByteArray.empty ByteArray.empty), (El.mk 4 5 0 0 ByteArray.empty 1 3 ({ data := #[101] } : ByteArray) ByteArray.empty ByteArray.empty)] from hs)
  have Twn0 := Lib.hid (T2.out.trans tn (fun q hq e => by have := HG.out; omega))
  have Pwn0 := Lib.hid ((tn.block B (Array.getElem?_eq_some_iff.1 Pw2.out).1 (fun e => by have := HGB.out; omega)).trans Pw2.out)
  clear hs tn
  go_wp2_with (with_reducible (show wpList _ _ _ (Oper.mk (some 39) (.build 26 _) _ _ _ _ :: _) _ _); refine still ?_)
  clear hcv0 hf0 hwn0
  refine list_exec rfl _ _ (exec_fvB _ _ _ _ 5 1 rfl rfl rfl _) ?_
  go_wp2_with (with_reducible (show wpList _ _ _ (Oper.mk none (.store 26 (.tmp 4) (.tmp 39)) _ _ _ _ :: _) _ _); refine still ?_)
  refine list_put wn0 B 26 (fv 0 0) (fv 5 1) Pwn0.out rfl (fv_one _ _) fv_info rfl (.tmp 4) (.tmp 39) rfl rfl rfl (fun w3 h3 t3 => ?_)
  have P3 := Lib.hid h3
  have T3 := Lib.hid (Twn0.out.trans t3 (fun q hq e => by have := HGB.out; omega))
  have HO3 := Lib.hid (HOwn0.out.turn t3 (fun q hq e => by have e2 : q = B := e; have e3 : G = q := Option.some.inj hq; have := HGB.out; omega))
  clear h3 t3
  go_wp2_with fail
  have HC := Lib.hid (show checkE [(El.mk 1 1 2 0 ({ data := #[97] } : ByteArray) 0 0 ByteArray.empty ByteArray.empty ByteArray.empty), (El.mk 2 1 1 0 ({ data := #[98] } : ByteArray) 0 0 ByteArray.empty ByteArray.empty ByteArray.empty), (El.mk 3 4 0 0 ByteArray.empty 0 0 ByteArray.empty ByteArray.empty ByteArray.empty), (El.mk 4 5 0 0 ByteArray.empty 1 3 ({ data := #[101] } : ByteArray) ByteArray.empty ByteArray.empty)] = (5, 1) from by decide +kernel)
  refine wp_region_held_drew (S := fun wq => wq.rangeAt B 0 (fv 5 1)) (by kernel_rfl) (range_of P3.out) (fun hHeld => ?_)
  refine wpAnyH_ready (rs := [0]) (by kernel_rfl) (by simp) ?_
  refine AllReadyH.cons rfl (fun K hK => ?_) AllReadyH.nil
  go_simp
  refine (awake_any w3.drew).mono ?_
  rintro r w4 ⟨rfl, t4⟩
  have U4 := Lib.hid (show Turn (fun _ => False) w3 w4 from (Turn.refl (fun _ => False) w3).drew.trans t4 (fun _ _ => id))
  clear t4
  refine hK.out _ _ (rangeAt_turn (range_of P3.out) U4.out id) (fun _ => ?_)
  clear hK K
  try simp only [Act.put, List.setIfInBounds_toArray, List.set_cons_zero, List.set_cons_succ, List.getElem_toArray, List.getElem_cons_zero, List.getElem_cons_succ]
  refine wpAnyH_take (i := 1) (v := .bool true) rfl (by kernel_rfl) (by kernel_rfl) (by kernel_rfl) (fun _ _ _ h => h) (Or.inl ⟨by rfl, ?yq73⟩) (by assumption) ?rq73
  case yq73 => (intro wq hSw; (try simp only [List.getElem_toArray, List.getElem_cons_zero, List.getElem_cons_succ]); go_simp; (try with_reducible rfl); all_goals (try omega))
  case rq73 =>
  try simp only [Act.put, List.setIfInBounds_toArray, List.set_cons_zero, List.set_cons_succ, List.getElem_toArray, List.getElem_cons_zero, List.getElem_cons_succ]
  refine wpAnyH_take (i := 2) (v := .slice (some ⟨G, 0, none⟩) 4 4) rfl (by kernel_rfl) (by kernel_rfl) (by kernel_rfl) (fun _ _ _ h => h) (Or.inl ⟨by rfl, ?yq74⟩) (by assumption) ?rq74
  case yq74 => (intro wq hSw; (try simp only [List.getElem_toArray, List.getElem_cons_zero, List.getElem_cons_succ]); go_simp; (try with_reducible rfl); all_goals (try omega))
  case rq74 =>
  try simp only [Act.put, List.setIfInBounds_toArray, List.set_cons_zero, List.set_cons_succ, List.getElem_toArray, List.getElem_cons_zero, List.getElem_cons_succ]
  refine wpAnyH_take (i := 4) (v := .agg (fv 5 1).toArray) rfl (by kernel_rfl) (by kernel_rfl) (by kernel_rfl) (fun _ _ _ h => h) (Or.inl ⟨by rfl, ?yq75⟩) (by assumption) ?rq75
  case yq75 => (intro wq hSw; exact exec_load_mid _ _ 26 (.tmp 4) rfl B 0 rfl (fv 5 1) _ wq hSw Try.underlying26 rfl fv_info)
  case rq75 =>
  try simp only [Act.put, List.setIfInBounds_toArray, List.set_cons_zero, List.set_cons_succ, List.getElem_toArray, List.getElem_cons_zero, List.getElem_cons_succ]
  refine wpAnyH_ready (rs := [3]) (by kernel_rfl) (by simp) ?_
  refine AllReadyH.cons rfl (fun K hK => ?_) AllReadyH.nil
  go_simp
  refine (rcheck_any w4 _ [(El.mk 1 1 2 0 ({ data := #[97] } : ByteArray) 0 0 ByteArray.empty ByteArray.empty ByteArray.empty), (El.mk 2 1 1 0 ({ data := #[98] } : ByteArray) 0 0 ByteArray.empty ByteArray.empty ByteArray.empty), (El.mk 3 4 0 0 ByteArray.empty 0 0 ByteArray.empty ByteArray.empty ByteArray.empty), (El.mk 4 5 0 0 ByteArray.empty 1 3 ({ data := #[101] } : ByteArray) ByteArray.empty ByteArray.empty)] (HO3.out.turn U4.out (fun _ _ => id)).row (by decide)).mono ?_
  rw [HC.out]
  rintro r w5 ⟨rfl, t5⟩
  have U5 := Lib.hid (U4.out.trans t5 (fun _ _ => id))
  clear t5
  refine hK.out _ _ (rangeAt_turn (range_of P3.out) U5.out id) (fun _ => ?_)
  clear hK K
  try simp only [Act.put, List.setIfInBounds_toArray, List.set_cons_zero, List.set_cons_succ, List.getElem_toArray, List.getElem_cons_zero, List.getElem_cons_succ]
  refine wpAnyH_take (i := 5) (v := .bool true) rfl (by kernel_rfl) (by kernel_rfl) (by kernel_rfl) (fun _ _ _ h => h) (Or.inl ⟨by rfl, ?yq76⟩) (by assumption) ?rq76
  case yq76 => (intro wq hSw; exact exec_eql_fv1 _ _ rfl 5 1 _ rfl rfl)
  case rq76 =>
  try simp only [Act.put, List.setIfInBounds_toArray, List.set_cons_zero, List.set_cons_succ, List.getElem_toArray, List.getElem_cons_zero, List.getElem_cons_succ]
  refine wpAnyH_take (i := 6) (v := .bool true) rfl (by kernel_rfl) (by kernel_rfl) (by kernel_rfl) (fun _ _ _ h => h) (Or.inl ⟨by rfl, ?yq77⟩) (by assumption) ?rq77
  case yq77 => (intro wq hSw; (try simp only [List.getElem_toArray, List.getElem_cons_zero, List.getElem_cons_succ]); go_simp; (try with_reducible rfl); all_goals (try omega))
  case rq77 =>
  try simp only [Act.put, List.setIfInBounds_toArray, List.set_cons_zero, List.set_cons_succ, List.getElem_toArray, List.getElem_cons_zero, List.getElem_cons_succ]
  refine wpAnyH_take (i := 7) (v := .bool true) rfl (by kernel_rfl) (by kernel_rfl) (by kernel_rfl) (fun _ _ _ h => h) (Or.inl ⟨by rfl, ?yq78⟩) (by assumption) ?rq78
  case yq78 => (intro wq hSw; (try simp only [List.getElem_toArray, List.getElem_cons_zero, List.getElem_cons_succ]); go_simp; (try with_reducible rfl); all_goals (try omega))
  case rq78 =>
  try simp only [Act.put, List.setIfInBounds_toArray, List.set_cons_zero, List.set_cons_succ, List.getElem_toArray, List.getElem_cons_zero, List.getElem_cons_succ]
  refine wpAnyH_take (i := 8) (v := .bool true) rfl (by kernel_rfl) (by kernel_rfl) (by kernel_rfl) (fun _ _ _ h => h) (Or.inl ⟨by rfl, ?yq79⟩) (by assumption) ?rq79
  case yq79 => (intro wq hSw; (try simp only [List.getElem_toArray, List.getElem_cons_zero, List.getElem_cons_succ]); go_simp; (try with_reducible rfl); all_goals (try omega))
  case rq79 =>
  try simp only [Act.put, List.setIfInBounds_toArray, List.set_cons_zero, List.set_cons_succ, List.getElem_toArray, List.getElem_cons_zero, List.getElem_cons_succ]
  refine wpAnyH_take (i := 9) (v := .bool true) rfl (by kernel_rfl) (by kernel_rfl) (by kernel_rfl) (fun _ _ _ h => h) (Or.inl ⟨by rfl, ?yq80⟩) (by assumption) ?rq80
  case yq80 => (intro wq hSw; (try simp only [List.getElem_toArray, List.getElem_cons_zero, List.getElem_cons_succ]); go_simp; (try with_reducible rfl); all_goals (try omega))
  case rq80 =>
  try simp only [Act.put, List.setIfInBounds_toArray, List.set_cons_zero, List.set_cons_succ, List.getElem_toArray, List.getElem_cons_zero, List.getElem_cons_succ]
  refine wpAnyH_take (i := 10) (v := .bool true) rfl (by kernel_rfl) (by kernel_rfl) (by kernel_rfl) (fun _ _ _ h => h) (Or.inl ⟨by rfl, ?yq81⟩) (by assumption) ?rq81
  case yq81 => (intro wq hSw; (try simp only [List.getElem_toArray, List.getElem_cons_zero, List.getElem_cons_succ]); go_simp; (try with_reducible rfl); all_goals (try omega))
  case rq81 =>
  try simp only [Act.put, List.setIfInBounds_toArray, List.set_cons_zero, List.set_cons_succ, List.getElem_toArray, List.getElem_cons_zero, List.getElem_cons_succ]
  refine wpAnyH_take (i := 11) (v := .bool true) rfl (by kernel_rfl) (by kernel_rfl) (by kernel_rfl) (fun _ _ _ h => h) (Or.inl ⟨by rfl, ?yq82⟩) (by assumption) ?rq82
  case yq82 => (intro wq hSw; (try simp only [List.getElem_toArray, List.getElem_cons_zero, List.getElem_cons_succ]); go_simp; (try with_reducible rfl); all_goals (try omega))
  case rq82 =>
  try simp only [Act.put, List.setIfInBounds_toArray, List.set_cons_zero, List.set_cons_succ, List.getElem_toArray, List.getElem_cons_zero, List.getElem_cons_succ]
  refine wpAnyH_done (by kernel_rfl) ?_ _
  clear hHeld
  go_wp2_with fail
  go_ret
  exact ⟨rfl, T3.out.trans U5.out (fun _ _ => id)⟩
set_option maxHeartbeats 4000000 in
theorem one_5 (w : World) (how : Int) (hh : how.tmod 8 = 5) : Calls Try.prog 5 #[.int .u8 how] w fun e w' => e = .returned (.bool true) ∧ Turn (fun _ => False) w w' := by
  have ho := own_alloc w oneS (by decide)
  have t1 := turn_alloc w 35 (elsV oneS)
  obtain ⟨G, hG⟩ : ∃ G, w.heap.size = G := ⟨_, rfl⟩
  obtain ⟨w1, hw1⟩ : ∃ w1, w.alloc (.cells (elsV oneS).toArray 35) = w1 := ⟨_, rfl⟩
  have hbl : ∀ ev op, op.op = .buildSlice 23 4 #[(0, .tmp 5), (1, .tmp 6), (2, .tmp 7), (3, .tmp 8)] → ev (.tmp 5) = .agg (El.mk 1 1 0 0 ({ data := #[97] } : ByteArray) 0 0 ByteArray.empty ByteArray.empty ByteArray.empty).vals.toArray → ev (.tmp 6) = .agg (El.mk 2 1 1 0 ({ data := #[98] } : ByteArray) 0 0 ByteArray.empty ByteArray.empty ByteArray.empty).vals.toArray → ev (.tmp 7) = .agg (El.mk 3 4 0 0 ByteArray.empty 0 0 ByteArray.empty ByteArray.empty ByteArray.empty).vals.toArray → ev (.tmp 8) = .agg (El.mk 4 5 0 0 ByteArray.empty 1 3 ({ data := #[101] } : ByteArray) ByteArray.empty ByteArray.empty).vals.toArray → (execOp ev op).run Try.prog w = .ok (.value (.slice (some ⟨G, 0, none⟩) 4 4)) w1 := fun ev op ho h0 h1 h2 h3 => by rw [← hw1, ← hG]; exact exec_els4 ev op _ _ _ _ ho _ _ _ _ h0 h1 h2 h3 w
  rw [hw1] at ho t1
  rw [hG] at ho
  have HO := Lib.hid (show OwV G w1 (.slice (some ⟨G, 0, none⟩) 4 4) oneS from ho)
  have T1 := Lib.hid t1
  have HBL := Lib.hid hbl
  have HG := Lib.hid hG
  clear ho t1 hw1 hbl hG
  go_enter Try.func5, Try.ntmps5
  go_wp2_with (with_reducible (show wpList _ _ _ (Oper.mk (some 5) (.build 35 _) _ _ _ _ :: _) _ _); refine still ?_)
  refine list_exec rfl _ _ (exec_el014 _ _ _ _ _ 1 1 ({ data := #[97] } : ByteArray) rfl rfl rfl rfl _) ?_
  go_wp2_with (with_reducible (show wpList _ _ _ (Oper.mk (some 6) (.build 35 _) _ _ _ _ :: _) _ _); refine still ?_)
  refine list_exec rfl _ _ (exec_el0142 _ _ _ _ _ _ 2 1 ({ data := #[98] } : ByteArray) 1 rfl rfl rfl rfl rfl _) ?_
  go_wp2_with (with_reducible (show wpList _ _ _ (Oper.mk (some 7) (.build 35 _) _ _ _ _ :: _) _ _); refine still ?_)
  refine list_exec rfl _ _ (exec_el01 _ _ _ _ 3 4 rfl rfl rfl _) ?_
  go_wp2_with (with_reducible (show wpList _ _ _ (Oper.mk (some 8) (.build 35 _) _ _ _ _ :: _) _ _); refine still ?_)
  refine list_exec rfl _ _ (exec_el01567 _ _ _ _ _ _ _ 4 5 1 3 ({ data := #[101] } : ByteArray) rfl rfl rfl rfl rfl rfl _) ?_
  go_wp2_with (with_reducible (show wpList _ _ _ (Oper.mk (some 9) (.buildSlice 23 _ _) _ _ _ _ :: _) _ _); refine still ?_)
  refine list_exec rfl _ _ (HBL.out _ _ rfl rfl rfl rfl rfl) ?_
  go_wp2_with (with_reducible (show wpList _ _ _ (Oper.mk (some 10) (.build 26 _) _ _ _ _ :: _) _ _); refine still ?_)
  refine list_exec rfl _ _ (exec_fv0 _ _ rfl _) ?_
  obtain ⟨B, hB⟩ : ∃ B, w1.heap.size = B := ⟨_, rfl⟩
  obtain ⟨wz, hwz⟩ : ∃ wz, w1.alloc (.cells (fv 0 0).toArray 26) = wz := ⟨_, rfl⟩
  have hx2 : ∀ ev op, op.op = .alloc 26 → (execOp ev op).run Try.prog w1 = .ok (.value (.pointer (some ⟨B, 0, none⟩))) wz := fun ev op ho => by rw [← hwz, ← hB]; exact exec_zero26 ev op ho _
  have hb2 := box_alloc w1 26 (fv 0 0)
  rw [hwz] at hb2
  have hh2 := hb2.heap
  rw [hB] at hh2
  have HX2 := Lib.hid hx2
  have HB2 := Lib.hid hb2
  have HH2 := Lib.hid hh2
  have HE2 := Lib.hid hB
  clear hb2 hB hwz hx2 hh2
  go_wp2_with (with_reducible (show wpList _ _ _ (Oper.mk (some 4) (.alloc 26) _ _ _ _ :: _) _ _); refine still ?_)
  refine list_exec rfl _ _ (HX2.out _ _ rfl) ?_
  go_wp2_with (with_reducible (show wpList _ _ _ (Oper.mk none (.store 26 (.tmp 4) (.tmp 10)) _ _ _ _ :: _) _ _); refine still ?_)
  refine list_put wz B 26 (fv 0 0) (fv 0 0) HH2.out rfl (fv_one _ _) fv_info rfl (.tmp 4) (.tmp 10) rfl rfl rfl (fun w2 hw2 tw2 => ?_)
  have Pw2 := Lib.hid hw2
  have Uw2 := Lib.hid (HB2.out.turn.trans tw2 (fun q hq e => by have := HE2.out; omega))
  clear hw2 tw2
  have HO2 := Lib.hid (HO.out.turn Uw2.out (fun _ _ => id))
  have T2 := Lib.hid (T1.out.trans Uw2.out (fun _ _ => id))
  have HGB := Lib.hid (show G < B ∧ w.heap.size ≤ B from by obtain ⟨g, h1, h2, h3⟩ := HO.out.at (l := oneS) rfl (by decide); injection h1 with h1; injection h1 with h1 _ _; exact ⟨by have := HE2.out; omega, by have := HE2.out; have := T1.out.size; omega⟩)
  obtain ⟨hs, hf0⟩ := own_set (base := G) HO2.out (n := 4) rfl 3 (by decide) 5 (by decide) (.int .i64 3) (El.mk 4 5 0 0 ByteArray.empty 3 3 ({ data := #[101] } : ByteArray) ByteArray.empty ByteArray.empty) rfl
  have tn : Turn (fun q => q = G) w2 (w2.setCell ⟨G, 3 * 10 + 5, none⟩ (.int .i64 3)) := (Turn.refl (fun q => q = G) w2).setCell (p := ⟨G, 3 * 10 + 5, none⟩) (fun _ => rfl) _
  obtain ⟨cv0, hcv0⟩ := own_cell HO2.out (n := 4) rfl 3 (by decide) 5 (by decide)
  simp only [Nat.reduceMul, Nat.reduceAdd, Nat.zero_add] at hs hf0 tn hcv0
  obtain ⟨wn0, hwn0⟩ : ∃ n, w2.setCell ⟨G, 35, none⟩ (.int .i64 3) = n := ⟨_, rfl⟩
  rw [hwn0] at hs tn
  have HOwn0 := Lib.hid (show OwV G wn0 (.slice (some ⟨G, 0, none⟩) 4 4) [(El.mk 1 1 0 0 ({ data := #[97] } : ByteArray) 0 0 ByteArray.empty ByteArray.empty ByteArray.empty), (El.mk 2 1 1 0 ({ data := #[98] } : ByteArray) 0 0 ByteArray.empty ByteArray.empty ByteArray.empty), (El.mk 3 4 0 0 ByteArray.empty 0 0 ByteArray.empty ByteArray.empty ByteArray.empty), (El.mk 4 5 0 0 ByteArray.empty 3 3 ({ data := #[101] } : ByteArray) ByteArray.empty ByteArray.empty)] from hs)
  have Twn0 := Lib.hid (T2.out.trans tn (fun q hq e => by have := HG.out; omega))
  have Pwn0 := Lib.hid ((tn.block B (Array.getElem?_eq_some_iff.1 Pw2.out).1 (fun e => by have := HGB.out; omega)).trans Pw2.out)
  clear hs tn
  go_wp2_with (with_reducible (show wpList _ _ _ (Oper.mk (some 45) (.build 26 _) _ _ _ _ :: _) _ _); refine still ?_)
  clear hcv0 hf0 hwn0
  refine list_exec rfl _ _ (exec_fvB _ _ _ _ 6 4 rfl rfl rfl _) ?_
  go_wp2_with (with_reducible (show wpList _ _ _ (Oper.mk none (.store 26 (.tmp 4) (.tmp 45)) _ _ _ _ :: _) _ _); refine still ?_)
  refine list_put wn0 B 26 (fv 0 0) (fv 6 4) Pwn0.out rfl (fv_one _ _) fv_info rfl (.tmp 4) (.tmp 45) rfl rfl rfl (fun w3 h3 t3 => ?_)
  have P3 := Lib.hid h3
  have T3 := Lib.hid (Twn0.out.trans t3 (fun q hq e => by have := HGB.out; omega))
  have HO3 := Lib.hid (HOwn0.out.turn t3 (fun q hq e => by have e2 : q = B := e; have e3 : G = q := Option.some.inj hq; have := HGB.out; omega))
  clear h3 t3
  go_wp2_with fail
  have HC := Lib.hid (show checkE [(El.mk 1 1 0 0 ({ data := #[97] } : ByteArray) 0 0 ByteArray.empty ByteArray.empty ByteArray.empty), (El.mk 2 1 1 0 ({ data := #[98] } : ByteArray) 0 0 ByteArray.empty ByteArray.empty ByteArray.empty), (El.mk 3 4 0 0 ByteArray.empty 0 0 ByteArray.empty ByteArray.empty ByteArray.empty), (El.mk 4 5 0 0 ByteArray.empty 3 3 ({ data := #[101] } : ByteArray) ByteArray.empty ByteArray.empty)] = (6, 4) from by decide +kernel)
  refine wp_region_held_drew (S := fun wq => wq.rangeAt B 0 (fv 6 4)) (by kernel_rfl) (range_of P3.out) (fun hHeld => ?_)
  refine wpAnyH_ready (rs := [0]) (by kernel_rfl) (by simp) ?_
  refine AllReadyH.cons rfl (fun K hK => ?_) AllReadyH.nil
  go_simp
  refine (awake_any w3.drew).mono ?_
  rintro r w4 ⟨rfl, t4⟩
  have U4 := Lib.hid (show Turn (fun _ => False) w3 w4 from (Turn.refl (fun _ => False) w3).drew.trans t4 (fun _ _ => id))
  clear t4
  refine hK.out _ _ (rangeAt_turn (range_of P3.out) U4.out id) (fun _ => ?_)
  clear hK K
  try simp only [Act.put, List.setIfInBounds_toArray, List.set_cons_zero, List.set_cons_succ, List.getElem_toArray, List.getElem_cons_zero, List.getElem_cons_succ]
  refine wpAnyH_take (i := 1) (v := .bool true) rfl (by kernel_rfl) (by kernel_rfl) (by kernel_rfl) (fun _ _ _ h => h) (Or.inl ⟨by rfl, ?yq83⟩) (by assumption) ?rq83
  case yq83 => (intro wq hSw; (try simp only [List.getElem_toArray, List.getElem_cons_zero, List.getElem_cons_succ]); go_simp; (try with_reducible rfl); all_goals (try omega))
  case rq83 =>
  try simp only [Act.put, List.setIfInBounds_toArray, List.set_cons_zero, List.set_cons_succ, List.getElem_toArray, List.getElem_cons_zero, List.getElem_cons_succ]
  refine wpAnyH_take (i := 2) (v := .slice (some ⟨G, 0, none⟩) 4 4) rfl (by kernel_rfl) (by kernel_rfl) (by kernel_rfl) (fun _ _ _ h => h) (Or.inl ⟨by rfl, ?yq84⟩) (by assumption) ?rq84
  case yq84 => (intro wq hSw; (try simp only [List.getElem_toArray, List.getElem_cons_zero, List.getElem_cons_succ]); go_simp; (try with_reducible rfl); all_goals (try omega))
  case rq84 =>
  try simp only [Act.put, List.setIfInBounds_toArray, List.set_cons_zero, List.set_cons_succ, List.getElem_toArray, List.getElem_cons_zero, List.getElem_cons_succ]
  refine wpAnyH_take (i := 4) (v := .agg (fv 6 4).toArray) rfl (by kernel_rfl) (by kernel_rfl) (by kernel_rfl) (fun _ _ _ h => h) (Or.inl ⟨by rfl, ?yq85⟩) (by assumption) ?rq85
  case yq85 => (intro wq hSw; exact exec_load_mid _ _ 26 (.tmp 4) rfl B 0 rfl (fv 6 4) _ wq hSw Try.underlying26 rfl fv_info)
  case rq85 =>
  try simp only [Act.put, List.setIfInBounds_toArray, List.set_cons_zero, List.set_cons_succ, List.getElem_toArray, List.getElem_cons_zero, List.getElem_cons_succ]
  refine wpAnyH_ready (rs := [3]) (by kernel_rfl) (by simp) ?_
  refine AllReadyH.cons rfl (fun K hK => ?_) AllReadyH.nil
  go_simp
  refine (rcheck_any w4 _ [(El.mk 1 1 0 0 ({ data := #[97] } : ByteArray) 0 0 ByteArray.empty ByteArray.empty ByteArray.empty), (El.mk 2 1 1 0 ({ data := #[98] } : ByteArray) 0 0 ByteArray.empty ByteArray.empty ByteArray.empty), (El.mk 3 4 0 0 ByteArray.empty 0 0 ByteArray.empty ByteArray.empty ByteArray.empty), (El.mk 4 5 0 0 ByteArray.empty 3 3 ({ data := #[101] } : ByteArray) ByteArray.empty ByteArray.empty)] (HO3.out.turn U4.out (fun _ _ => id)).row (by decide)).mono ?_
  rw [HC.out]
  rintro r w5 ⟨rfl, t5⟩
  have U5 := Lib.hid (U4.out.trans t5 (fun _ _ => id))
  clear t5
  refine hK.out _ _ (rangeAt_turn (range_of P3.out) U5.out id) (fun _ => ?_)
  clear hK K
  try simp only [Act.put, List.setIfInBounds_toArray, List.set_cons_zero, List.set_cons_succ, List.getElem_toArray, List.getElem_cons_zero, List.getElem_cons_succ]
  refine wpAnyH_take (i := 5) (v := .bool true) rfl (by kernel_rfl) (by kernel_rfl) (by kernel_rfl) (fun _ _ _ h => h) (Or.inl ⟨by rfl, ?yq86⟩) (by assumption) ?rq86
  case yq86 => (intro wq hSw; exact exec_eql_fv1 _ _ rfl 6 4 _ rfl rfl)
  case rq86 =>
  try simp only [Act.put, List.setIfInBounds_toArray, List.set_cons_zero, List.set_cons_succ, List.getElem_toArray, List.getElem_cons_zero, List.getElem_cons_succ]
  refine wpAnyH_take (i := 6) (v := .bool true) rfl (by kernel_rfl) (by kernel_rfl) (by kernel_rfl) (fun _ _ _ h => h) (Or.inl ⟨by rfl, ?yq87⟩) (by assumption) ?rq87
  case yq87 => (intro wq hSw; (try simp only [List.getElem_toArray, List.getElem_cons_zero, List.getElem_cons_succ]); go_simp; (try with_reducible rfl); all_goals (try omega))
  case rq87 =>
  try simp only [Act.put, List.setIfInBounds_toArray, List.set_cons_zero, List.set_cons_succ, List.getElem_toArray, List.getElem_cons_zero, List.getElem_cons_succ]
  refine wpAnyH_take (i := 7) (v := .bool true) rfl (by kernel_rfl) (by kernel_rfl) (by kernel_rfl) (fun _ _ _ h => h) (Or.inl ⟨by rfl, ?yq88⟩) (by assumption) ?rq88
  case yq88 => (intro wq hSw; (try simp only [List.getElem_toArray, List.getElem_cons_zero, List.getElem_cons_succ]); go_simp; (try with_reducible rfl); all_goals (try omega))
  case rq88 =>
  try simp only [Act.put, List.setIfInBounds_toArray, List.set_cons_zero, List.set_cons_succ, List.getElem_toArray, List.getElem_cons_zero, List.getElem_cons_succ]
  refine wpAnyH_take (i := 8) (v := .bool true) rfl (by kernel_rfl) (by kernel_rfl) (by kernel_rfl) (fun _ _ _ h => h) (Or.inl ⟨by rfl, ?yq89⟩) (by assumption) ?rq89
  case yq89 => (intro wq hSw; (try simp only [List.getElem_toArray, List.getElem_cons_zero, List.getElem_cons_succ]); go_simp; (try with_reducible rfl); all_goals (try omega))
  case rq89 =>
  try simp only [Act.put, List.setIfInBounds_toArray, List.set_cons_zero, List.set_cons_succ, List.getElem_toArray, List.getElem_cons_zero, List.getElem_cons_succ]
  refine wpAnyH_take (i := 9) (v := .bool true) rfl (by kernel_rfl) (by kernel_rfl) (by kernel_rfl) (fun _ _ _ h => h) (Or.inl ⟨by rfl, ?yq90⟩) (by assumption) ?rq90
  case yq90 => (intro wq hSw; (try simp only [List.getElem_toArray, List.getElem_cons_zero, List.getElem_cons_succ]); go_simp; (try with_reducible rfl); all_goals (try omega))
  case rq90 =>
  try simp only [Act.put, List.setIfInBounds_toArray, List.set_cons_zero, List.set_cons_succ, List.getElem_toArray, List.getElem_cons_zero, List.getElem_cons_succ]
  refine wpAnyH_take (i := 10) (v := .bool true) rfl (by kernel_rfl) (by kernel_rfl) (by kernel_rfl) (fun _ _ _ h => h) (Or.inl ⟨by rfl, ?yq91⟩) (by assumption) ?rq91
  case yq91 => (intro wq hSw; (try simp only [List.getElem_toArray, List.getElem_cons_zero, List.getElem_cons_succ]); go_simp; (try with_reducible rfl); all_goals (try omega))
  case rq91 =>
  try simp only [Act.put, List.setIfInBounds_toArray, List.set_cons_zero, List.set_cons_succ, List.getElem_toArray, List.getElem_cons_zero, List.getElem_cons_succ]
  refine wpAnyH_take (i := 11) (v := .bool true) rfl (by kernel_rfl) (by kernel_rfl) (by kernel_rfl) (fun _ _ _ h => h) (Or.inl ⟨by rfl, ?yq92⟩) (by assumption) ?rq92
  case yq92 => (intro wq hSw; (try simp only [List.getElem_toArray, List.getElem_cons_zero, List.getElem_cons_succ]); go_simp; (try with_reducible rfl); all_goals (try omega))
  case rq92 =>
  try simp only [Act.put, List.setIfInBounds_toArray, List.set_cons_zero, List.set_cons_succ, List.getElem_toArray, List.getElem_cons_zero, List.getElem_cons_succ]
  refine wpAnyH_done (by kernel_rfl) ?_ _
  clear hHeld
  go_wp2_with fail
  go_ret
  exact ⟨rfl, T3.out.trans U5.out (fun _ _ => id)⟩
set_option maxHeartbeats 4000000 in
theorem one_6 (w : World) (how : Int) (hh : how.tmod 8 = 6) : Calls Try.prog 5 #[.int .u8 how] w fun e w' => e = .returned (.bool true) ∧ Turn (fun _ => False) w w' := by
  have ho := own_alloc w oneS (by decide)
  have t1 := turn_alloc w 35 (elsV oneS)
  obtain ⟨G, hG⟩ : ∃ G, w.heap.size = G := ⟨_, rfl⟩
  obtain ⟨w1, hw1⟩ : ∃ w1, w.alloc (.cells (elsV oneS).toArray 35) = w1 := ⟨_, rfl⟩
  have hbl : ∀ ev op, op.op = .buildSlice 23 4 #[(0, .tmp 5), (1, .tmp 6), (2, .tmp 7), (3, .tmp 8)] → ev (.tmp 5) = .agg (El.mk 1 1 0 0 ({ data := #[97] } : ByteArray) 0 0 ByteArray.empty ByteArray.empty ByteArray.empty).vals.toArray → ev (.tmp 6) = .agg (El.mk 2 1 1 0 ({ data := #[98] } : ByteArray) 0 0 ByteArray.empty ByteArray.empty ByteArray.empty).vals.toArray → ev (.tmp 7) = .agg (El.mk 3 4 0 0 ByteArray.empty 0 0 ByteArray.empty ByteArray.empty ByteArray.empty).vals.toArray → ev (.tmp 8) = .agg (El.mk 4 5 0 0 ByteArray.empty 1 3 ({ data := #[101] } : ByteArray) ByteArray.empty ByteArray.empty).vals.toArray → (execOp ev op).run Try.prog w = .ok (.value (.slice (some ⟨G, 0, none⟩) 4 4)) w1 := fun ev op ho h0 h1 h2 h3 => by rw [← hw1, ← hG]; exact exec_els4 ev op _ _ _ _ ho _ _ _ _ h0 h1 h2 h3 w
  rw [hw1] at ho t1
  rw [hG] at ho
  have HO := Lib.hid (show OwV G w1 (.slice (some ⟨G, 0, none⟩) 4 4) oneS from ho)
  have T1 := Lib.hid t1
  have HBL := Lib.hid hbl
  have HG := Lib.hid hG
  clear ho t1 hw1 hbl hG
  go_enter Try.func5, Try.ntmps5
  go_wp2_with (with_reducible (show wpList _ _ _ (Oper.mk (some 5) (.build 35 _) _ _ _ _ :: _) _ _); refine still ?_)
  refine list_exec rfl _ _ (exec_el014 _ _ _ _ _ 1 1 ({ data := #[97] } : ByteArray) rfl rfl rfl rfl _) ?_
  go_wp2_with (with_reducible (show wpList _ _ _ (Oper.mk (some 6) (.build 35 _) _ _ _ _ :: _) _ _); refine still ?_)
  refine list_exec rfl _ _ (exec_el0142 _ _ _ _ _ _ 2 1 ({ data := #[98] } : ByteArray) 1 rfl rfl rfl rfl rfl _) ?_
  go_wp2_with (with_reducible (show wpList _ _ _ (Oper.mk (some 7) (.build 35 _) _ _ _ _ :: _) _ _); refine still ?_)
  refine list_exec rfl _ _ (exec_el01 _ _ _ _ 3 4 rfl rfl rfl _) ?_
  go_wp2_with (with_reducible (show wpList _ _ _ (Oper.mk (some 8) (.build 35 _) _ _ _ _ :: _) _ _); refine still ?_)
  refine list_exec rfl _ _ (exec_el01567 _ _ _ _ _ _ _ 4 5 1 3 ({ data := #[101] } : ByteArray) rfl rfl rfl rfl rfl rfl _) ?_
  go_wp2_with (with_reducible (show wpList _ _ _ (Oper.mk (some 9) (.buildSlice 23 _ _) _ _ _ _ :: _) _ _); refine still ?_)
  refine list_exec rfl _ _ (HBL.out _ _ rfl rfl rfl rfl rfl) ?_
  go_wp2_with (with_reducible (show wpList _ _ _ (Oper.mk (some 10) (.build 26 _) _ _ _ _ :: _) _ _); refine still ?_)
  refine list_exec rfl _ _ (exec_fv0 _ _ rfl _) ?_
  obtain ⟨B, hB⟩ : ∃ B, w1.heap.size = B := ⟨_, rfl⟩
  obtain ⟨wz, hwz⟩ : ∃ wz, w1.alloc (.cells (fv 0 0).toArray 26) = wz := ⟨_, rfl⟩
  have hx2 : ∀ ev op, op.op = .alloc 26 → (execOp ev op).run Try.prog w1 = .ok (.value (.pointer (some ⟨B, 0, none⟩))) wz := fun ev op ho => by rw [← hwz, ← hB]; exact exec_zero26 ev op ho _
  have hb2 := box_alloc w1 26 (fv 0 0)
  rw [hwz] at hb2
  have hh2 := hb2.heap
  rw [hB] at hh2
  have HX2 := Lib.hid hx2
  have HB2 := Lib.hid hb2
  have HH2 := Lib.hid hh2
  have HE2 := Lib.hid hB
  clear hb2 hB hwz hx2 hh2
  go_wp2_with (with_reducible (show wpList _ _ _ (Oper.mk (some 4) (.alloc 26) _ _ _ _ :: _) _ _); refine still ?_)
  refine list_exec rfl _ _ (HX2.out _ _ rfl) ?_
  go_wp2_with (with_reducible (show wpList _ _ _ (Oper.mk none (.store 26 (.tmp 4) (.tmp 10)) _ _ _ _ :: _) _ _); refine still ?_)
  refine list_put wz B 26 (fv 0 0) (fv 0 0) HH2.out rfl (fv_one _ _) fv_info rfl (.tmp 4) (.tmp 10) rfl rfl rfl (fun w2 hw2 tw2 => ?_)
  have Pw2 := Lib.hid hw2
  have Uw2 := Lib.hid (HB2.out.turn.trans tw2 (fun q hq e => by have := HE2.out; omega))
  clear hw2 tw2
  have HO2 := Lib.hid (HO.out.turn Uw2.out (fun _ _ => id))
  have T2 := Lib.hid (T1.out.trans Uw2.out (fun _ _ => id))
  have HGB := Lib.hid (show G < B ∧ w.heap.size ≤ B from by obtain ⟨g, h1, h2, h3⟩ := HO.out.at (l := oneS) rfl (by decide); injection h1 with h1; injection h1 with h1 _ _; exact ⟨by have := HE2.out; omega, by have := HE2.out; have := T1.out.size; omega⟩)
  go_wp2_with (with_reducible (show wpList _ _ _ (Oper.mk (some 49) (.build 35 _) _ _ _ _ :: _) _ _); refine still ?_)
  refine list_exec rfl _ _ (exec_el0156 _ _ _ _ _ _ 5 5 1 1 rfl rfl rfl rfl rfl _) ?_
  obtain ⟨va, wa, hra, hoa, tta, a3, c3, hva⟩ := app_one w2 G 23 23 Try.underlying23 (.slice (some ⟨G, 0, none⟩) 4 4) oneS (El.mk 5 5 0 0 ByteArray.empty 1 1 ByteArray.empty ByteArray.empty ByteArray.empty) HO2.out (by have := HGB.out; have := T2.out.size; have := HG.out; omega) (by decide)
  replace hva : va = .slice a3 5 c3 := hva
  subst hva
  have HRA := Lib.hid hra
  have HOA := Lib.hid (show OwV G wa (.slice a3 5 c3) [(El.mk 1 1 0 0 ({ data := #[97] } : ByteArray) 0 0 ByteArray.empty ByteArray.empty ByteArray.empty), (El.mk 2 1 1 0 ({ data := #[98] } : ByteArray) 0 0 ByteArray.empty ByteArray.empty ByteArray.empty), (El.mk 3 4 0 0 ByteArray.empty 0 0 ByteArray.empty ByteArray.empty ByteArray.empty), (El.mk 4 5 0 0 ByteArray.empty 1 3 ({ data := #[101] } : ByteArray) ByteArray.empty ByteArray.empty), (El.mk 5 5 0 0 ByteArray.empty 1 1 ByteArray.empty ByteArray.empty ByteArray.empty)] from hoa)
  have TA := Lib.hid (turn_on HO2.out (by have := HG.out; omega) T2.out tta)
  have PA := Lib.hid ((tta.block B (Array.getElem?_eq_some_iff.1 Pw2.out).1 (fun e => by have e3 : G = B := Option.some.inj e; have := HGB.out; omega)).trans Pw2.out)
  have HNE := Lib.hid (app_ne HOA.out PA.out)
  clear hra hoa tta
  go_wp2_with (with_reducible (show wpList _ _ _ (Oper.mk (some 50) (.buildSlice 23 _ _) _ _ _ _ :: _) _ _); refine still ?_)
  refine list_exec rfl _ _ (exec_build_one _ _ (.tmp 49) 23 Try.underlying23 rfl (El.mk 5 5 0 0 ByteArray.empty 1 1 ByteArray.empty ByteArray.empty ByteArray.empty) rfl _) ?_
  go_wp2_with (with_reducible (show wpList _ _ _ (Oper.mk (some 51) (_) _ _ _ _ :: _) _ _); refine still ?_)
  refine list_exec rfl _ _ (exec_append _ _ (.tmp 48) (.tmp 50) 23 rfl _ _ _ _ _ rfl rfl HRA.out) ?_
  go_wp2_with (with_reducible (show wpList _ _ _ (Oper.mk (some 52) (.build 26 _) _ _ _ _ :: _) _ _); refine still ?_)
  refine list_exec rfl _ _ (exec_fvB _ _ _ _ 7 4 rfl rfl rfl _) ?_
  go_wp2_with (with_reducible (show wpList _ _ _ (Oper.mk none (.store 26 (.tmp 4) (.tmp 52)) _ _ _ _ :: _) _ _); refine still ?_)
  refine list_put wa B 26 (fv 0 0) (fv 7 4) PA.out rfl (fv_one _ _) fv_info rfl (.tmp 4) (.tmp 52) rfl rfl rfl (fun w3 h3 t3 => ?_)
  have P3 := Lib.hid h3
  have T3 := Lib.hid (TA.out.trans t3 (fun q hq e => by have := HGB.out; omega))
  have HO3 := Lib.hid (HOA.out.turn t3 (fun q hq e => by exact HNE.out q hq e))
  clear h3 t3
  go_wp2_with fail
  have HC := Lib.hid (show checkE [(El.mk 1 1 0 0 ({ data := #[97] } : ByteArray) 0 0 ByteArray.empty ByteArray.empty ByteArray.empty), (El.mk 2 1 1 0 ({ data := #[98] } : ByteArray) 0 0 ByteArray.empty ByteArray.empty ByteArray.empty), (El.mk 3 4 0 0 ByteArray.empty 0 0 ByteArray.empty ByteArray.empty ByteArray.empty), (El.mk 4 5 0 0 ByteArray.empty 1 3 ({ data := #[101] } : ByteArray) ByteArray.empty ByteArray.empty), (El.mk 5 5 0 0 ByteArray.empty 1 1 ByteArray.empty ByteArray.empty ByteArray.empty)] = (7, 4) from by decide +kernel)
  refine wp_region_held_drew (S := fun wq => wq.rangeAt B 0 (fv 7 4)) (by kernel_rfl) (range_of P3.out) (fun hHeld => ?_)
  refine wpAnyH_ready (rs := [0]) (by kernel_rfl) (by simp) ?_
  refine AllReadyH.cons rfl (fun K hK => ?_) AllReadyH.nil
  go_simp
  refine (awake_any w3.drew).mono ?_
  rintro r w4 ⟨rfl, t4⟩
  have U4 := Lib.hid (show Turn (fun _ => False) w3 w4 from (Turn.refl (fun _ => False) w3).drew.trans t4 (fun _ _ => id))
  clear t4
  refine hK.out _ _ (rangeAt_turn (range_of P3.out) U4.out id) (fun _ => ?_)
  clear hK K
  try simp only [Act.put, List.setIfInBounds_toArray, List.set_cons_zero, List.set_cons_succ, List.getElem_toArray, List.getElem_cons_zero, List.getElem_cons_succ]
  refine wpAnyH_take (i := 1) (v := .bool true) rfl (by kernel_rfl) (by kernel_rfl) (by kernel_rfl) (fun _ _ _ h => h) (Or.inl ⟨by rfl, ?yq93⟩) (by assumption) ?rq93
  case yq93 => (intro wq hSw; (try simp only [List.getElem_toArray, List.getElem_cons_zero, List.getElem_cons_succ]); go_simp; (try with_reducible rfl); all_goals (try omega))
  case rq93 =>
  try simp only [Act.put, List.setIfInBounds_toArray, List.set_cons_zero, List.set_cons_succ, List.getElem_toArray, List.getElem_cons_zero, List.getElem_cons_succ]
  refine wpAnyH_take (i := 2) (v := .slice a3 5 c3) rfl (by kernel_rfl) (by kernel_rfl) (by kernel_rfl) (fun _ _ _ h => h) (Or.inl ⟨by rfl, ?yq94⟩) (by assumption) ?rq94
  case yq94 => (intro wq hSw; (try simp only [List.getElem_toArray, List.getElem_cons_zero, List.getElem_cons_succ]); go_simp; (try with_reducible rfl); all_goals (try omega))
  case rq94 =>
  try simp only [Act.put, List.setIfInBounds_toArray, List.set_cons_zero, List.set_cons_succ, List.getElem_toArray, List.getElem_cons_zero, List.getElem_cons_succ]
  refine wpAnyH_take (i := 4) (v := .agg (fv 7 4).toArray) rfl (by kernel_rfl) (by kernel_rfl) (by kernel_rfl) (fun _ _ _ h => h) (Or.inl ⟨by rfl, ?yq95⟩) (by assumption) ?rq95
  case yq95 => (intro wq hSw; exact exec_load_mid _ _ 26 (.tmp 4) rfl B 0 rfl (fv 7 4) _ wq hSw Try.underlying26 rfl fv_info)
  case rq95 =>
  try simp only [Act.put, List.setIfInBounds_toArray, List.set_cons_zero, List.set_cons_succ, List.getElem_toArray, List.getElem_cons_zero, List.getElem_cons_succ]
  refine wpAnyH_ready (rs := [3]) (by kernel_rfl) (by simp) ?_
  refine AllReadyH.cons rfl (fun K hK => ?_) AllReadyH.nil
  go_simp
  refine (rcheck_any w4 _ [(El.mk 1 1 0 0 ({ data := #[97] } : ByteArray) 0 0 ByteArray.empty ByteArray.empty ByteArray.empty), (El.mk 2 1 1 0 ({ data := #[98] } : ByteArray) 0 0 ByteArray.empty ByteArray.empty ByteArray.empty), (El.mk 3 4 0 0 ByteArray.empty 0 0 ByteArray.empty ByteArray.empty ByteArray.empty), (El.mk 4 5 0 0 ByteArray.empty 1 3 ({ data := #[101] } : ByteArray) ByteArray.empty ByteArray.empty), (El.mk 5 5 0 0 ByteArray.empty 1 1 ByteArray.empty ByteArray.empty ByteArray.empty)] (HO3.out.turn U4.out (fun _ _ => id)).row (by decide)).mono ?_
  rw [HC.out]
  rintro r w5 ⟨rfl, t5⟩
  have U5 := Lib.hid (U4.out.trans t5 (fun _ _ => id))
  clear t5
  refine hK.out _ _ (rangeAt_turn (range_of P3.out) U5.out id) (fun _ => ?_)
  clear hK K
  try simp only [Act.put, List.setIfInBounds_toArray, List.set_cons_zero, List.set_cons_succ, List.getElem_toArray, List.getElem_cons_zero, List.getElem_cons_succ]
  refine wpAnyH_take (i := 5) (v := .bool true) rfl (by kernel_rfl) (by kernel_rfl) (by kernel_rfl) (fun _ _ _ h => h) (Or.inl ⟨by rfl, ?yq96⟩) (by assumption) ?rq96
  case yq96 => (intro wq hSw; exact exec_eql_fv1 _ _ rfl 7 4 _ rfl rfl)
  case rq96 =>
  try simp only [Act.put, List.setIfInBounds_toArray, List.set_cons_zero, List.set_cons_succ, List.getElem_toArray, List.getElem_cons_zero, List.getElem_cons_succ]
  refine wpAnyH_take (i := 6) (v := .bool true) rfl (by kernel_rfl) (by kernel_rfl) (by kernel_rfl) (fun _ _ _ h => h) (Or.inl ⟨by rfl, ?yq97⟩) (by assumption) ?rq97
  case yq97 => (intro wq hSw; (try simp only [List.getElem_toArray, List.getElem_cons_zero, List.getElem_cons_succ]); go_simp; (try with_reducible rfl); all_goals (try omega))
  case rq97 =>
  try simp only [Act.put, List.setIfInBounds_toArray, List.set_cons_zero, List.set_cons_succ, List.getElem_toArray, List.getElem_cons_zero, List.getElem_cons_succ]
  refine wpAnyH_take (i := 7) (v := .bool true) rfl (by kernel_rfl) (by kernel_rfl) (by kernel_rfl) (fun _ _ _ h => h) (Or.inl ⟨by rfl, ?yq98⟩) (by assumption) ?rq98
  case yq98 => (intro wq hSw; (try simp only [List.getElem_toArray, List.getElem_cons_zero, List.getElem_cons_succ]); go_simp; (try with_reducible rfl); all_goals (try omega))
  case rq98 =>
  try simp only [Act.put, List.setIfInBounds_toArray, List.set_cons_zero, List.set_cons_succ, List.getElem_toArray, List.getElem_cons_zero, List.getElem_cons_succ]
  refine wpAnyH_take (i := 8) (v := .bool true) rfl (by kernel_rfl) (by kernel_rfl) (by kernel_rfl) (fun _ _ _ h => h) (Or.inl ⟨by rfl, ?yq99⟩) (by assumption) ?rq99
  case yq99 => (intro wq hSw; (try simp only [List.getElem_toArray, List.getElem_cons_zero, List.getElem_cons_succ]); go_simp; (try with_reducible rfl); all_goals (try omega))
  case rq99 =>
  try simp only [Act.put, List.setIfInBounds_toArray, List.set_cons_zero, List.set_cons_succ, List.getElem_toArray, List.getElem_cons_zero, List.getElem_cons_succ]
  refine wpAnyH_take (i := 9) (v := .bool true) rfl (by kernel_rfl) (by kernel_rfl) (by kernel_rfl) (fun _ _ _ h => h) (Or.inl ⟨by rfl, ?yq100⟩) (by assumption) ?rq100
  case yq100 => (intro wq hSw; (try simp only [List.getElem_toArray, List.getElem_cons_zero, List.getElem_cons_succ]); go_simp; (try with_reducible rfl); all_goals (try omega))
  case rq100 =>
  try simp only [Act.put, List.setIfInBounds_toArray, List.set_cons_zero, List.set_cons_succ, List.getElem_toArray, List.getElem_cons_zero, List.getElem_cons_succ]
  refine wpAnyH_take (i := 10) (v := .bool true) rfl (by kernel_rfl) (by kernel_rfl) (by kernel_rfl) (fun _ _ _ h => h) (Or.inl ⟨by rfl, ?yq101⟩) (by assumption) ?rq101
  case yq101 => (intro wq hSw; (try simp only [List.getElem_toArray, List.getElem_cons_zero, List.getElem_cons_succ]); go_simp; (try with_reducible rfl); all_goals (try omega))
  case rq101 =>
  try simp only [Act.put, List.setIfInBounds_toArray, List.set_cons_zero, List.set_cons_succ, List.getElem_toArray, List.getElem_cons_zero, List.getElem_cons_succ]
  refine wpAnyH_take (i := 11) (v := .bool true) rfl (by kernel_rfl) (by kernel_rfl) (by kernel_rfl) (fun _ _ _ h => h) (Or.inl ⟨by rfl, ?yq102⟩) (by assumption) ?rq102
  case yq102 => (intro wq hSw; (try simp only [List.getElem_toArray, List.getElem_cons_zero, List.getElem_cons_succ]); go_simp; (try with_reducible rfl); all_goals (try omega))
  case rq102 =>
  try simp only [Act.put, List.setIfInBounds_toArray, List.set_cons_zero, List.set_cons_succ, List.getElem_toArray, List.getElem_cons_zero, List.getElem_cons_succ]
  refine wpAnyH_done (by kernel_rfl) ?_ _
  clear hHeld
  go_wp2_with fail
  go_ret
  exact ⟨rfl, T3.out.trans U5.out (fun _ _ => id)⟩
set_option maxHeartbeats 4000000 in
theorem one_7 (w : World) (how : Int) (hh : how.tmod 8 = 7) : Calls Try.prog 5 #[.int .u8 how] w fun e w' => e = .returned (.bool true) ∧ Turn (fun _ => False) w w' := by
  have ho := own_alloc w oneS (by decide)
  have t1 := turn_alloc w 35 (elsV oneS)
  obtain ⟨G, hG⟩ : ∃ G, w.heap.size = G := ⟨_, rfl⟩
  obtain ⟨w1, hw1⟩ : ∃ w1, w.alloc (.cells (elsV oneS).toArray 35) = w1 := ⟨_, rfl⟩
  have hbl : ∀ ev op, op.op = .buildSlice 23 4 #[(0, .tmp 5), (1, .tmp 6), (2, .tmp 7), (3, .tmp 8)] → ev (.tmp 5) = .agg (El.mk 1 1 0 0 ({ data := #[97] } : ByteArray) 0 0 ByteArray.empty ByteArray.empty ByteArray.empty).vals.toArray → ev (.tmp 6) = .agg (El.mk 2 1 1 0 ({ data := #[98] } : ByteArray) 0 0 ByteArray.empty ByteArray.empty ByteArray.empty).vals.toArray → ev (.tmp 7) = .agg (El.mk 3 4 0 0 ByteArray.empty 0 0 ByteArray.empty ByteArray.empty ByteArray.empty).vals.toArray → ev (.tmp 8) = .agg (El.mk 4 5 0 0 ByteArray.empty 1 3 ({ data := #[101] } : ByteArray) ByteArray.empty ByteArray.empty).vals.toArray → (execOp ev op).run Try.prog w = .ok (.value (.slice (some ⟨G, 0, none⟩) 4 4)) w1 := fun ev op ho h0 h1 h2 h3 => by rw [← hw1, ← hG]; exact exec_els4 ev op _ _ _ _ ho _ _ _ _ h0 h1 h2 h3 w
  rw [hw1] at ho t1
  rw [hG] at ho
  have HO := Lib.hid (show OwV G w1 (.slice (some ⟨G, 0, none⟩) 4 4) oneS from ho)
  have T1 := Lib.hid t1
  have HBL := Lib.hid hbl
  have HG := Lib.hid hG
  clear ho t1 hw1 hbl hG
  go_enter Try.func5, Try.ntmps5
  go_wp2_with (with_reducible (show wpList _ _ _ (Oper.mk (some 5) (.build 35 _) _ _ _ _ :: _) _ _); refine still ?_)
  refine list_exec rfl _ _ (exec_el014 _ _ _ _ _ 1 1 ({ data := #[97] } : ByteArray) rfl rfl rfl rfl _) ?_
  go_wp2_with (with_reducible (show wpList _ _ _ (Oper.mk (some 6) (.build 35 _) _ _ _ _ :: _) _ _); refine still ?_)
  refine list_exec rfl _ _ (exec_el0142 _ _ _ _ _ _ 2 1 ({ data := #[98] } : ByteArray) 1 rfl rfl rfl rfl rfl _) ?_
  go_wp2_with (with_reducible (show wpList _ _ _ (Oper.mk (some 7) (.build 35 _) _ _ _ _ :: _) _ _); refine still ?_)
  refine list_exec rfl _ _ (exec_el01 _ _ _ _ 3 4 rfl rfl rfl _) ?_
  go_wp2_with (with_reducible (show wpList _ _ _ (Oper.mk (some 8) (.build 35 _) _ _ _ _ :: _) _ _); refine still ?_)
  refine list_exec rfl _ _ (exec_el01567 _ _ _ _ _ _ _ 4 5 1 3 ({ data := #[101] } : ByteArray) rfl rfl rfl rfl rfl rfl _) ?_
  go_wp2_with (with_reducible (show wpList _ _ _ (Oper.mk (some 9) (.buildSlice 23 _ _) _ _ _ _ :: _) _ _); refine still ?_)
  refine list_exec rfl _ _ (HBL.out _ _ rfl rfl rfl rfl rfl) ?_
  go_wp2_with (with_reducible (show wpList _ _ _ (Oper.mk (some 10) (.build 26 _) _ _ _ _ :: _) _ _); refine still ?_)
  refine list_exec rfl _ _ (exec_fv0 _ _ rfl _) ?_
  obtain ⟨B, hB⟩ : ∃ B, w1.heap.size = B := ⟨_, rfl⟩
  obtain ⟨wz, hwz⟩ : ∃ wz, w1.alloc (.cells (fv 0 0).toArray 26) = wz := ⟨_, rfl⟩
  have hx2 : ∀ ev op, op.op = .alloc 26 → (execOp ev op).run Try.prog w1 = .ok (.value (.pointer (some ⟨B, 0, none⟩))) wz := fun ev op ho => by rw [← hwz, ← hB]; exact exec_zero26 ev op ho _
  have hb2 := box_alloc w1 26 (fv 0 0)
  rw [hwz] at hb2
  have hh2 := hb2.heap
  rw [hB] at hh2
  have HX2 := Lib.hid hx2
  have HB2 := Lib.hid hb2
  have HH2 := Lib.hid hh2
  have HE2 := Lib.hid hB
  clear hb2 hB hwz hx2 hh2
  go_wp2_with (with_reducible (show wpList _ _ _ (Oper.mk (some 4) (.alloc 26) _ _ _ _ :: _) _ _); refine still ?_)
  refine list_exec rfl _ _ (HX2.out _ _ rfl) ?_
  go_wp2_with (with_reducible (show wpList _ _ _ (Oper.mk none (.store 26 (.tmp 4) (.tmp 10)) _ _ _ _ :: _) _ _); refine still ?_)
  refine list_put wz B 26 (fv 0 0) (fv 0 0) HH2.out rfl (fv_one _ _) fv_info rfl (.tmp 4) (.tmp 10) rfl rfl rfl (fun w2 hw2 tw2 => ?_)
  have Pw2 := Lib.hid hw2
  have Uw2 := Lib.hid (HB2.out.turn.trans tw2 (fun q hq e => by have := HE2.out; omega))
  clear hw2 tw2
  have HO2 := Lib.hid (HO.out.turn Uw2.out (fun _ _ => id))
  have T2 := Lib.hid (T1.out.trans Uw2.out (fun _ _ => id))
  have HGB := Lib.hid (show G < B ∧ w.heap.size ≤ B from by obtain ⟨g, h1, h2, h3⟩ := HO.out.at (l := oneS) rfl (by decide); injection h1 with h1; injection h1 with h1 _ _; exact ⟨by have := HE2.out; omega, by have := HE2.out; have := T1.out.size; omega⟩)
  go_wp2_with (with_reducible (show wpList _ _ _ (Oper.mk (some 56) (.build 35 _) _ _ _ _ :: _) _ _); refine still ?_)
  refine list_exec rfl _ _ (exec_el0142 _ _ _ _ _ _ 5 2 ({ data := #[114] } : ByteArray) 1 rfl rfl rfl rfl rfl _) ?_
  obtain ⟨va, wa, hra, hoa, tta, a3, c3, hva⟩ := app_one w2 G 23 23 Try.underlying23 (.slice (some ⟨G, 0, none⟩) 4 4) oneS (El.mk 5 2 1 0 ({ data := #[114] } : ByteArray) 0 0 ByteArray.empty ByteArray.empty ByteArray.empty) HO2.out (by have := HGB.out; have := T2.out.size; have := HG.out; omega) (by decide)
  replace hva : va = .slice a3 5 c3 := hva
  subst hva
  have HRA := Lib.hid hra
  have HOA := Lib.hid (show OwV G wa (.slice a3 5 c3) [(El.mk 1 1 0 0 ({ data := #[97] } : ByteArray) 0 0 ByteArray.empty ByteArray.empty ByteArray.empty), (El.mk 2 1 1 0 ({ data := #[98] } : ByteArray) 0 0 ByteArray.empty ByteArray.empty ByteArray.empty), (El.mk 3 4 0 0 ByteArray.empty 0 0 ByteArray.empty ByteArray.empty ByteArray.empty), (El.mk 4 5 0 0 ByteArray.empty 1 3 ({ data := #[101] } : ByteArray) ByteArray.empty ByteArray.empty), (El.mk 5 2 1 0 ({ data := #[114] } : ByteArray) 0 0 ByteArray.empty ByteArray.empty ByteArray.empty)] from hoa)
  have TA := Lib.hid (turn_on HO2.out (by have := HG.out; omega) T2.out tta)
  have PA := Lib.hid ((tta.block B (Array.getElem?_eq_some_iff.1 Pw2.out).1 (fun e => by have e3 : G = B := Option.some.inj e; have := HGB.out; omega)).trans Pw2.out)
  have HNE := Lib.hid (app_ne HOA.out PA.out)
  clear hra hoa tta
  go_wp2_with (with_reducible (show wpList _ _ _ (Oper.mk (some 57) (.buildSlice 23 _ _) _ _ _ _ :: _) _ _); refine still ?_)
  refine list_exec rfl _ _ (exec_build_one _ _ (.tmp 56) 23 Try.underlying23 rfl (El.mk 5 2 1 0 ({ data := #[114] } : ByteArray) 0 0 ByteArray.empty ByteArray.empty ByteArray.empty) rfl _) ?_
  go_wp2_with (with_reducible (show wpList _ _ _ (Oper.mk (some 58) (_) _ _ _ _ :: _) _ _); refine still ?_)
  refine list_exec rfl _ _ (exec_append _ _ (.tmp 55) (.tmp 57) 23 rfl _ _ _ _ _ rfl rfl HRA.out) ?_
  go_wp2_with (with_reducible (show wpList _ _ _ (Oper.mk (some 59) (.build 26 _) _ _ _ _ :: _) _ _); refine still ?_)
  refine list_exec rfl _ _ (exec_fvB _ _ _ _ 8 1 rfl rfl rfl _) ?_
  go_wp2_with (with_reducible (show wpList _ _ _ (Oper.mk none (.store 26 (.tmp 4) (.tmp 59)) _ _ _ _ :: _) _ _); refine still ?_)
  refine list_put wa B 26 (fv 0 0) (fv 8 1) PA.out rfl (fv_one _ _) fv_info rfl (.tmp 4) (.tmp 59) rfl rfl rfl (fun w3 h3 t3 => ?_)
  have P3 := Lib.hid h3
  have T3 := Lib.hid (TA.out.trans t3 (fun q hq e => by have := HGB.out; omega))
  have HO3 := Lib.hid (HOA.out.turn t3 (fun q hq e => by exact HNE.out q hq e))
  clear h3 t3
  go_wp2_with fail
  have HC := Lib.hid (show checkE [(El.mk 1 1 0 0 ({ data := #[97] } : ByteArray) 0 0 ByteArray.empty ByteArray.empty ByteArray.empty), (El.mk 2 1 1 0 ({ data := #[98] } : ByteArray) 0 0 ByteArray.empty ByteArray.empty ByteArray.empty), (El.mk 3 4 0 0 ByteArray.empty 0 0 ByteArray.empty ByteArray.empty ByteArray.empty), (El.mk 4 5 0 0 ByteArray.empty 1 3 ({ data := #[101] } : ByteArray) ByteArray.empty ByteArray.empty), (El.mk 5 2 1 0 ({ data := #[114] } : ByteArray) 0 0 ByteArray.empty ByteArray.empty ByteArray.empty)] = (8, 1) from by decide +kernel)
  refine wp_region_held_drew (S := fun wq => wq.rangeAt B 0 (fv 8 1)) (by kernel_rfl) (range_of P3.out) (fun hHeld => ?_)
  refine wpAnyH_ready (rs := [0]) (by kernel_rfl) (by simp) ?_
  refine AllReadyH.cons rfl (fun K hK => ?_) AllReadyH.nil
  go_simp
  refine (awake_any w3.drew).mono ?_
  rintro r w4 ⟨rfl, t4⟩
  have U4 := Lib.hid (show Turn (fun _ => False) w3 w4 from (Turn.refl (fun _ => False) w3).drew.trans t4 (fun _ _ => id))
  clear t4
  refine hK.out _ _ (rangeAt_turn (range_of P3.out) U4.out id) (fun _ => ?_)
  clear hK K
  try simp only [Act.put, List.setIfInBounds_toArray, List.set_cons_zero, List.set_cons_succ, List.getElem_toArray, List.getElem_cons_zero, List.getElem_cons_succ]
  refine wpAnyH_take (i := 1) (v := .bool true) rfl (by kernel_rfl) (by kernel_rfl) (by kernel_rfl) (fun _ _ _ h => h) (Or.inl ⟨by rfl, ?yq103⟩) (by assumption) ?rq103
  case yq103 => (intro wq hSw; (try simp only [List.getElem_toArray, List.getElem_cons_zero, List.getElem_cons_succ]); go_simp; (try with_reducible rfl); all_goals (try omega))
  case rq103 =>
  try simp only [Act.put, List.setIfInBounds_toArray, List.set_cons_zero, List.set_cons_succ, List.getElem_toArray, List.getElem_cons_zero, List.getElem_cons_succ]
  refine wpAnyH_take (i := 2) (v := .slice a3 5 c3) rfl (by kernel_rfl) (by kernel_rfl) (by kernel_rfl) (fun _ _ _ h => h) (Or.inl ⟨by rfl, ?yq104⟩) (by assumption) ?rq104
  case yq104 => (intro wq hSw; (try simp only [List.getElem_toArray, List.getElem_cons_zero, List.getElem_cons_succ]); go_simp; (try with_reducible rfl); all_goals (try omega))
  case rq104 =>
  try simp only [Act.put, List.setIfInBounds_toArray, List.set_cons_zero, List.set_cons_succ, List.getElem_toArray, List.getElem_cons_zero, List.getElem_cons_succ]
  refine wpAnyH_take (i := 4) (v := .agg (fv 8 1).toArray) rfl (by kernel_rfl) (by kernel_rfl) (by kernel_rfl) (fun _ _ _ h => h) (Or.inl ⟨by rfl, ?yq105⟩) (by assumption) ?rq105
  case yq105 => (intro wq hSw; exact exec_load_mid _ _ 26 (.tmp 4) rfl B 0 rfl (fv 8 1) _ wq hSw Try.underlying26 rfl fv_info)
  case rq105 =>
  try simp only [Act.put, List.setIfInBounds_toArray, List.set_cons_zero, List.set_cons_succ, List.getElem_toArray, List.getElem_cons_zero, List.getElem_cons_succ]
  refine wpAnyH_ready (rs := [3]) (by kernel_rfl) (by simp) ?_
  refine AllReadyH.cons rfl (fun K hK => ?_) AllReadyH.nil
  go_simp
  refine (rcheck_any w4 _ [(El.mk 1 1 0 0 ({ data := #[97] } : ByteArray) 0 0 ByteArray.empty ByteArray.empty ByteArray.empty), (El.mk 2 1 1 0 ({ data := #[98] } : ByteArray) 0 0 ByteArray.empty ByteArray.empty ByteArray.empty), (El.mk 3 4 0 0 ByteArray.empty 0 0 ByteArray.empty ByteArray.empty ByteArray.empty), (El.mk 4 5 0 0 ByteArray.empty 1 3 ({ data := #[101] } : ByteArray) ByteArray.empty ByteArray.empty), (El.mk 5 2 1 0 ({ data := #[114] } : ByteArray) 0 0 ByteArray.empty ByteArray.empty ByteArray.empty)] (HO3.out.turn U4.out (fun _ _ => id)).row (by decide)).mono ?_
  rw [HC.out]
  rintro r w5 ⟨rfl, t5⟩
  have U5 := Lib.hid (U4.out.trans t5 (fun _ _ => id))
  clear t5
  refine hK.out _ _ (rangeAt_turn (range_of P3.out) U5.out id) (fun _ => ?_)
  clear hK K
  try simp only [Act.put, List.setIfInBounds_toArray, List.set_cons_zero, List.set_cons_succ, List.getElem_toArray, List.getElem_cons_zero, List.getElem_cons_succ]
  refine wpAnyH_take (i := 5) (v := .bool true) rfl (by kernel_rfl) (by kernel_rfl) (by kernel_rfl) (fun _ _ _ h => h) (Or.inl ⟨by rfl, ?yq106⟩) (by assumption) ?rq106
  case yq106 => (intro wq hSw; exact exec_eql_fv1 _ _ rfl 8 1 _ rfl rfl)
  case rq106 =>
  try simp only [Act.put, List.setIfInBounds_toArray, List.set_cons_zero, List.set_cons_succ, List.getElem_toArray, List.getElem_cons_zero, List.getElem_cons_succ]
  refine wpAnyH_take (i := 6) (v := .bool true) rfl (by kernel_rfl) (by kernel_rfl) (by kernel_rfl) (fun _ _ _ h => h) (Or.inl ⟨by rfl, ?yq107⟩) (by assumption) ?rq107
  case yq107 => (intro wq hSw; (try simp only [List.getElem_toArray, List.getElem_cons_zero, List.getElem_cons_succ]); go_simp; (try with_reducible rfl); all_goals (try omega))
  case rq107 =>
  try simp only [Act.put, List.setIfInBounds_toArray, List.set_cons_zero, List.set_cons_succ, List.getElem_toArray, List.getElem_cons_zero, List.getElem_cons_succ]
  refine wpAnyH_take (i := 7) (v := .bool true) rfl (by kernel_rfl) (by kernel_rfl) (by kernel_rfl) (fun _ _ _ h => h) (Or.inl ⟨by rfl, ?yq108⟩) (by assumption) ?rq108
  case yq108 => (intro wq hSw; (try simp only [List.getElem_toArray, List.getElem_cons_zero, List.getElem_cons_succ]); go_simp; (try with_reducible rfl); all_goals (try omega))
  case rq108 =>
  try simp only [Act.put, List.setIfInBounds_toArray, List.set_cons_zero, List.set_cons_succ, List.getElem_toArray, List.getElem_cons_zero, List.getElem_cons_succ]
  refine wpAnyH_take (i := 8) (v := .bool true) rfl (by kernel_rfl) (by kernel_rfl) (by kernel_rfl) (fun _ _ _ h => h) (Or.inl ⟨by rfl, ?yq109⟩) (by assumption) ?rq109
  case yq109 => (intro wq hSw; (try simp only [List.getElem_toArray, List.getElem_cons_zero, List.getElem_cons_succ]); go_simp; (try with_reducible rfl); all_goals (try omega))
  case rq109 =>
  try simp only [Act.put, List.setIfInBounds_toArray, List.set_cons_zero, List.set_cons_succ, List.getElem_toArray, List.getElem_cons_zero, List.getElem_cons_succ]
  refine wpAnyH_take (i := 9) (v := .bool true) rfl (by kernel_rfl) (by kernel_rfl) (by kernel_rfl) (fun _ _ _ h => h) (Or.inl ⟨by rfl, ?yq110⟩) (by assumption) ?rq110
  case yq110 => (intro wq hSw; (try simp only [List.getElem_toArray, List.getElem_cons_zero, List.getElem_cons_succ]); go_simp; (try with_reducible rfl); all_goals (try omega))
  case rq110 =>
  try simp only [Act.put, List.setIfInBounds_toArray, List.set_cons_zero, List.set_cons_succ, List.getElem_toArray, List.getElem_cons_zero, List.getElem_cons_succ]
  refine wpAnyH_take (i := 10) (v := .bool true) rfl (by kernel_rfl) (by kernel_rfl) (by kernel_rfl) (fun _ _ _ h => h) (Or.inl ⟨by rfl, ?yq111⟩) (by assumption) ?rq111
  case yq111 => (intro wq hSw; (try simp only [List.getElem_toArray, List.getElem_cons_zero, List.getElem_cons_succ]); go_simp; (try with_reducible rfl); all_goals (try omega))
  case rq111 =>
  try simp only [Act.put, List.setIfInBounds_toArray, List.set_cons_zero, List.set_cons_succ, List.getElem_toArray, List.getElem_cons_zero, List.getElem_cons_succ]
  refine wpAnyH_take (i := 11) (v := .bool true) rfl (by kernel_rfl) (by kernel_rfl) (by kernel_rfl) (fun _ _ _ h => h) (Or.inl ⟨by rfl, ?yq112⟩) (by assumption) ?rq112
  case yq112 => (intro wq hSw; (try simp only [List.getElem_toArray, List.getElem_cons_zero, List.getElem_cons_succ]); go_simp; (try with_reducible rfl); all_goals (try omega))
  case rq112 =>
  try simp only [Act.put, List.setIfInBounds_toArray, List.set_cons_zero, List.set_cons_succ, List.getElem_toArray, List.getElem_cons_zero, List.getElem_cons_succ]
  refine wpAnyH_done (by kernel_rfl) ?_ _
  clear hHeld
  go_wp2_with fail
  go_ret
  exact ⟨rfl, T3.out.trans U5.out (fun _ _ => id)⟩

end Go.Proofs.Ytifhnidcodhoeaa
