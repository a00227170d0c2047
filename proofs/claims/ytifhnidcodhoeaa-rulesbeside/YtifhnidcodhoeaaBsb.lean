/- Own contracts: beside: cases. No statement is proved here. -/
import Derived.Test.YtifhnidcodhoeaaBkt
namespace Go.Proofs.Ytifhnidcodhoeaa
set_option maxRecDepth 100000
open Go.RowKit
set_option linter.unusedVariables false
set_option linter.unusedSimpArgs false

set_option maxHeartbeats 4000000 in
theorem bes_ftft (w : World) (a b : ByteArray) (ha : a.size ≤ 12) (hb : b.size ≤ 12) (hA : a.toList.isEmpty = false) (hB : b.toList.isEmpty = true)  : Calls Try.prog 7 #[.string a, .string b, .bool true] w fun e w' => e = .returned (.bool true) ∧ Turn (fun _ => False) w w' := by
  have HC := Lib.hid (show checkE (besL a b 2) = (3, 3) from by rw [bes_check ha hb (by omega : (2 : Int) = 1 ∨ (2 : Int) = 2) false true _ hA hB rfl]; rfl)
  have d1 : decide ((12 : Int) < (a.size : Int)) = false := decide_eq_false (by omega)
  have d2 : decide ((12 : Int) < (b.size : Int)) = false := decide_eq_false (by omega)
  clear ha hb
  go_enter Try.func7, Try.ntmps7
  go_wp2_with fail
  refine (awake_any w).mono ?_
  rintro r w0 ⟨rfl, t0⟩
  have T0 := Lib.hid t0
  clear t0
  have ho := own_alloc w0 (besL a b 1) (by show 3 ≤ 1000; omega)
  have t1 := turn_alloc w0 35 (elsV (besL a b 1))
  obtain ⟨G, hG⟩ : ∃ G, w0.heap.size = G := ⟨_, rfl⟩
  obtain ⟨w1, hw1⟩ : ∃ w1, w0.alloc (.cells (elsV (besL a b 1)).toArray 35) = w1 := ⟨_, rfl⟩
  have hbl : ∀ ev op, op.op = .buildSlice 23 3 #[(0, .tmp 22), (1, .tmp 24), (2, .tmp 26)] → ev (.tmp 22) = .agg (El.mk 1 1 0 0 ({ data := #[116, 111, 112] } : ByteArray) 0 0 ByteArray.empty ByteArray.empty ByteArray.empty).vals.toArray → ev (.tmp 24) = .agg (El.mk 2 1 1 0 a 0 0 ByteArray.empty ByteArray.empty ByteArray.empty).vals.toArray → ev (.tmp 26) = .agg (El.mk 3 1 1 0 b 0 0 ByteArray.empty ByteArray.empty ByteArray.empty).vals.toArray → (execOp ev op).run Try.prog w0 = .ok (.value (.slice (some ⟨G, 0, none⟩) 3 3)) w1 := fun ev op ho h0 h1 h2 => by rw [← hw1, ← hG]; exact exec_els3 ev op _ _ _ ho _ _ _ h0 h1 h2 w0
  rw [hw1] at ho t1
  rw [hG] at ho
  have HO := Lib.hid (show OwV G w1 (.slice (some ⟨G, 0, none⟩) 3 3) (besL a b 1) from ho)
  have T1 := Lib.hid (T0.out.trans t1 (fun _ _ => id))
  have HBL := Lib.hid hbl
  have HG := Lib.hid (show w.heap.size ≤ G from by rw [← hG]; exact T0.out.size)
  clear ho t1 hw1 hbl hG
  go_wp2_with (with_reducible (show wpList _ _ _ (Oper.mk (some 22) (.build 35 _) _ _ _ _ :: _) _ _); refine still ?_)
  refine list_exec rfl _ _ (exec_el014 _ _ _ _ _ 1 1 ({ data := #[116, 111, 112] } : ByteArray) rfl rfl rfl rfl _) ?_
  go_wp2_with (with_reducible (show wpList _ _ _ (Oper.mk (some 24) (.build 35 _) _ _ _ _ :: _) _ _); refine still ?_)
  refine list_exec rfl _ _ (exec_el0124 _ _ _ _ _ _ 2 1 1 a rfl rfl rfl rfl rfl _) ?_
  go_wp2_with (with_reducible (show wpList _ _ _ (Oper.mk (some 26) (.build 35 _) _ _ _ _ :: _) _ _); refine still ?_)
  refine list_exec rfl _ _ (exec_el0124 _ _ _ _ _ _ 3 1 1 b rfl rfl rfl rfl rfl _) ?_
  go_wp2_with (with_reducible (show wpList _ _ _ (Oper.mk (some 27) (.buildSlice 23 _ _) _ _ _ _ :: _) _ _); refine still ?_)
  refine list_exec rfl _ _ (HBL.out _ _ rfl rfl rfl rfl) ?_
  obtain ⟨hs, hf⟩ := own_set (base := G) HO.out (n := 3) rfl 2 (by decide) 2 (by decide) (.int .i64 2) (El.mk 3 1 2 0 b 0 0 ByteArray.empty ByteArray.empty ByteArray.empty) rfl
  have tn : Turn (fun q => q = G) w1 (w1.setCell ⟨G, 2 * 10 + 2, none⟩ (.int .i64 2)) := (Turn.refl (fun q => q = G) w1).setCell (p := ⟨G, 2 * 10 + 2, none⟩) (fun _ => rfl) _
  obtain ⟨cv, hcv⟩ := own_cell HO.out (n := 3) rfl 2 (by decide) 2 (by decide)
  simp only [Nat.reduceMul, Nat.reduceAdd, Nat.zero_add] at hs hf tn hcv
  obtain ⟨wn, hwn⟩ : ∃ n, w1.setCell ⟨G, 22, none⟩ (.int .i64 2) = n := ⟨_, rfl⟩
  rw [hwn] at hs tn
  have HOn := Lib.hid (show OwV G wn (.slice (some ⟨G, 0, none⟩) 3 3) (besL a b 2) from hs)
  have Tn := Lib.hid (T1.out.trans tn (fun q hq e => by have := HG.out; omega))
  clear hs tn
  go_wp2_with (with_reducible (show wpList _ _ _ (Oper.mk (some 32) (.build 26 _) _ _ _ _ :: _) _ _); refine still ?_)
  clear hcv hf hwn
  refine list_exec rfl _ _ (exec_fv0 _ _ rfl _) ?_
  obtain ⟨B, hB⟩ : ∃ B, wn.heap.size = B := ⟨_, rfl⟩
  obtain ⟨wz, hwz⟩ : ∃ wz, wn.alloc (.cells (fv 0 0).toArray 26) = wz := ⟨_, rfl⟩
  have hx2 : ∀ ev op, op.op = .alloc 26 → (execOp ev op).run Try.prog wn = .ok (.value (.pointer (some ⟨B, 0, none⟩))) wz := fun ev op ho => by rw [← hwz, ← hB]; exact exec_zero26 ev op ho _
  have hb2 := box_alloc wn 26 (fv 0 0)
  rw [hwz] at hb2
  have hh2 := hb2.heap
  rw [hB] at hh2
  have HX2 := Lib.hid hx2
  have HB2 := Lib.hid hb2
  have HH2 := Lib.hid hh2
  have HE2 := Lib.hid hB
  clear hb2 hB hwz hx2 hh2
  go_wp2_with (with_reducible (show wpList _ _ _ (Oper.mk (some 8) (.alloc 26) _ _ _ _ :: _) _ _); refine still ?_)
  refine list_exec rfl _ _ (HX2.out _ _ rfl) ?_
  go_wp2_with (with_reducible (show wpList _ _ _ (Oper.mk none (.store 26 (.tmp 8) (.tmp 32)) _ _ _ _ :: _) _ _); refine still ?_)
  refine list_put wz B 26 (fv 0 0) (fv 0 0) HH2.out rfl (fv_one _ _) fv_info rfl (.tmp 8) (.tmp 32) rfl rfl rfl (fun w2 hw2 tw2 => ?_)
  have Pw2 := Lib.hid hw2
  have Uw2 := Lib.hid (HB2.out.turn.trans tw2 (fun q hq e => by have := HE2.out; omega))
  clear hw2 tw2
  have HO2 := Lib.hid (HOn.out.turn Uw2.out (fun _ _ => id))
  have T2 := Lib.hid (Tn.out.trans Uw2.out (fun _ _ => id))
  have HBW := Lib.hid (show w.heap.size ≤ B from by have := HE2.out; have := Tn.out.size; omega)
  have HNE := Lib.hid (app_ne HO2.out Pw2.out)
  go_wp2_with (with_reducible (show wpList _ _ _ (Oper.mk (some 40) (.build 26 _) _ _ _ _ :: _) _ _); refine still ?_)
  refine list_exec rfl _ _ (exec_fvB _ _ _ _ 3 3 rfl rfl rfl _) ?_
  go_wp2_with (with_reducible (show wpList _ _ _ (Oper.mk none (.store 26 (.tmp 8) (.tmp 40)) _ _ _ _ :: _) _ _); refine still ?_)
  refine list_put w2 B 26 (fv 0 0) (fv 3 3) Pw2.out rfl (fv_one _ _) fv_info rfl (.tmp 8) (.tmp 40) rfl rfl rfl (fun w3 h3 t3 => ?_)
  have P3 := Lib.hid h3
  have T3 := Lib.hid (T2.out.trans t3 (fun q hq e => by have := HBW.out; omega))
  have HO3 := Lib.hid (HO2.out.turn t3 (fun q hq e => HNE.out q hq e))
  clear h3 t3
  go_wp2_with fail
  refine wp_region_held_drew (S := fun wq => wq.rangeAt B 0 (fv 3 3)) (by kernel_rfl) (range_of P3.out) (fun hHeld => ?_)
  refine wpAnyH_take (i := 0) (v := .slice (some ⟨G, 0, none⟩) 3 3) rfl (by kernel_rfl) (by kernel_rfl) (by kernel_rfl) (fun _ _ _ h => h) (Or.inl ⟨by rfl, ?yq13⟩) (by assumption) ?rq13
  case yq13 => (intro wq hSw; (try simp only [List.getElem_toArray, List.getElem_cons_zero, List.getElem_cons_succ]); go_simp; (try with_reducible rfl); all_goals (try omega))
  case rq13 =>
  try simp only [Act.put, List.setIfInBounds_toArray, List.set_cons_zero, List.set_cons_succ, List.getElem_toArray, List.getElem_cons_zero, List.getElem_cons_succ]
  refine wpAnyH_take (i := 2) (v := .agg (fv 3 3).toArray) rfl (by kernel_rfl) (by kernel_rfl) (by kernel_rfl) (fun _ _ _ h => h) (Or.inl ⟨by rfl, ?yq14⟩) (by assumption) ?rq14
  case yq14 => (intro wq hSw; exact exec_load_mid _ _ 26 (.tmp 8) rfl B 0 rfl (fv 3 3) _ wq hSw Try.underlying26 rfl fv_info)
  case rq14 =>
  try simp only [Act.put, List.setIfInBounds_toArray, List.set_cons_zero, List.set_cons_succ, List.getElem_toArray, List.getElem_cons_zero, List.getElem_cons_succ]
  refine wpAnyH_ready (rs := [1]) (by kernel_rfl) (by simp) ?_
  refine AllReadyH.cons rfl (fun K hK => ?_) AllReadyH.nil
  go_simp
  refine (rcheck_any w3.drew _ (besL a b 2) (HO3.out.turn ((Turn.refl (fun _ => False) w3).drew) (fun _ _ => id)).row (by show 3 ≤ 9223372036854775807; omega)).mono ?_
  rw [HC.out]
  rintro r w5 ⟨rfl, t5⟩
  have U5 := Lib.hid (show Turn (fun _ => False) w3 w5 from (Turn.refl (fun _ => False) w3).drew.trans t5 (fun _ _ => id))
  clear t5
  refine hK.out _ _ (rangeAt_turn (range_of P3.out) U5.out id) (fun _ => ?_)
  clear hK K
  try simp only [Act.put, List.setIfInBounds_toArray, List.set_cons_zero, List.set_cons_succ, List.getElem_toArray, List.getElem_cons_zero, List.getElem_cons_succ]
  refine wpAnyH_take (i := 3) (v := .bool true) rfl (by kernel_rfl) (by kernel_rfl) (by kernel_rfl) (fun _ _ _ h => h) (Or.inl ⟨by rfl, ?yq15⟩) (by assumption) ?rq15
  case yq15 => (intro wq hSw; exact exec_eql_fv1 _ _ rfl 3 3 _ rfl rfl)
  case rq15 =>
  try simp only [Act.put, List.setIfInBounds_toArray, List.set_cons_zero, List.set_cons_succ, List.getElem_toArray, List.getElem_cons_zero, List.getElem_cons_succ]
  refine wpAnyH_take (i := 4) (v := .bool true) rfl (by kernel_rfl) (by kernel_rfl) (by kernel_rfl) (fun _ _ _ h => h) (Or.inl ⟨by rfl, ?yq16⟩) (by assumption) ?rq16
  case yq16 => (intro wq hSw; (try simp only [List.getElem_toArray, List.getElem_cons_zero, List.getElem_cons_succ]); go_simp; (try with_reducible rfl); all_goals (try omega))
  case rq16 =>
  try simp only [Act.put, List.setIfInBounds_toArray, List.set_cons_zero, List.set_cons_succ, List.getElem_toArray, List.getElem_cons_zero, List.getElem_cons_succ]
  refine wpAnyH_done (by kernel_rfl) ?_ _
  clear hHeld
  go_wp2_with fail
  go_ret
  exact ⟨rfl, T3.out.trans U5.out (fun _ _ => id)⟩
set_option maxHeartbeats 4000000 in
theorem bes_fftf (w : World) (a b : ByteArray) (ha : a.size ≤ 12) (hb : b.size ≤ 12) (hA : a.toList.isEmpty = false) (hB : b.toList.isEmpty = false) (hE : (a.toList == b.toList) = true) : Calls Try.prog 7 #[.string a, .string b, .bool false] w fun e w' => e = .returned (.bool true) ∧ Turn (fun _ => False) w w' := by
  have HC := Lib.hid (show checkE (besL a b 1) = (3, 2) from by rw [bes_check ha hb (by omega : (1 : Int) = 1 ∨ (1 : Int) = 2) false false true hA hB hE]; rfl)
  have d1 : decide ((12 : Int) < (a.size : Int)) = false := decide_eq_false (by omega)
  have d2 : decide ((12 : Int) < (b.size : Int)) = false := decide_eq_false (by omega)
  clear ha hb
  go_enter Try.func7, Try.ntmps7
  go_wp2_with fail
  refine (awake_any w).mono ?_
  rintro r w0 ⟨rfl, t0⟩
  have T0 := Lib.hid t0
  clear t0
  have ho := own_alloc w0 (besL a b 1) (by show 3 ≤ 1000; omega)
  have t1 := turn_alloc w0 35 (elsV (besL a b 1))
  obtain ⟨G, hG⟩ : ∃ G, w0.heap.size = G := ⟨_, rfl⟩
  obtain ⟨w1, hw1⟩ : ∃ w1, w0.alloc (.cells (elsV (besL a b 1)).toArray 35) = w1 := ⟨_, rfl⟩
  have hbl : ∀ ev op, op.op = .buildSlice 23 3 #[(0, .tmp 22), (1, .tmp 24), (2, .tmp 26)] → ev (.tmp 22) = .agg (El.mk 1 1 0 0 ({ data := #[116, 111, 112] } : ByteArray) 0 0 ByteArray.empty ByteArray.empty ByteArray.empty).vals.toArray → ev (.tmp 24) = .agg (El.mk 2 1 1 0 a 0 0 ByteArray.empty ByteArray.empty ByteArray.empty).vals.toArray → ev (.tmp 26) = .agg (El.mk 3 1 1 0 b 0 0 ByteArray.empty ByteArray.empty ByteArray.empty).vals.toArray → (execOp ev op).run Try.prog w0 = .ok (.value (.slice (some ⟨G, 0, none⟩) 3 3)) w1 := fun ev op ho h0 h1 h2 => by rw [← hw1, ← hG]; exact exec_els3 ev op _ _ _ ho _ _ _ h0 h1 h2 w0
  rw [hw1] at ho t1
  rw [hG] at ho
  have HO := Lib.hid (show OwV G w1 (.slice (some ⟨G, 0, none⟩) 3 3) (besL a b 1) from ho)
  have T1 := Lib.hid (T0.out.trans t1 (fun _ _ => id))
  have HBL := Lib.hid hbl
  have HG := Lib.hid (show w.heap.size ≤ G from by rw [← hG]; exact T0.out.size)
  clear ho t1 hw1 hbl hG
  go_wp2_with (with_reducible (show wpList _ _ _ (Oper.mk (some 22) (.build 35 _) _ _ _ _ :: _) _ _); refine still ?_)
  refine list_exec rfl _ _ (exec_el014 _ _ _ _ _ 1 1 ({ data := #[116, 111, 112] } : ByteArray) rfl rfl rfl rfl _) ?_
  go_wp2_with (with_reducible (show wpList _ _ _ (Oper.mk (some 24) (.build 35 _) _ _ _ _ :: _) _ _); refine still ?_)
  refine list_exec rfl _ _ (exec_el0124 _ _ _ _ _ _ 2 1 1 a rfl rfl rfl rfl rfl _) ?_
  go_wp2_with (with_reducible (show wpList _ _ _ (Oper.mk (some 26) (.build 35 _) _ _ _ _ :: _) _ _); refine still ?_)
  refine list_exec rfl _ _ (exec_el0124 _ _ _ _ _ _ 3 1 1 b rfl rfl rfl rfl rfl _) ?_
  go_wp2_with (with_reducible (show wpList _ _ _ (Oper.mk (some 27) (.buildSlice 23 _ _) _ _ _ _ :: _) _ _); refine still ?_)
  refine list_exec rfl _ _ (HBL.out _ _ rfl rfl rfl rfl) ?_
  go_wp2_with (with_reducible (show wpList _ _ _ (Oper.mk (some 32) (.build 26 _) _ _ _ _ :: _) _ _); refine still ?_)
  refine list_exec rfl _ _ (exec_fv0 _ _ rfl _) ?_
  obtain ⟨B, hB⟩ : ∃ B, w1.heap.size = B := ⟨_, rfl⟩
  obtain ⟨wz, hwz⟩ : ∃ wz, w1.alloc (.cells (fv 0 0).toArray 26) = wz := ⟨_, rfl⟩
  have hx2 : ∀ ev op, op.op = .alloc 26 → (execOp ev op).run Try.prog w1 = .ok (.value (.pointer (some ⟨B, 0, none⟩))) wz := fun ev op ho => by rw [← hwz, ← hB]; exact exec_zero26 ev op ho _
  have hb2 := box_alloc w1 26 (fv 0 0)
  rw [hwz] at hb2
  have hh2 := hb2.heap
  rw [hB] at hh2
  have HX2 := Lib.hid hx2
  have HB2 := Lib.hid hb2
  have HH2 := Lib.hid hh2
  have HE2 := Lib.hid hB
  clear hb2 hB hwz hx2 hh2
  go_wp2_with (with_reducible (show wpList _ _ _ (Oper.mk (some 8) (.alloc 26) _ _ _ _ :: _) _ _); refine still ?_)
  refine list_exec rfl _ _ (HX2.out _ _ rfl) ?_
  go_wp2_with (with_reducible (show wpList _ _ _ (Oper.mk none (.store 26 (.tmp 8) (.tmp 32)) _ _ _ _ :: _) _ _); refine still ?_)
  refine list_put wz B 26 (fv 0 0) (fv 0 0) HH2.out rfl (fv_one _ _) fv_info rfl (.tmp 8) (.tmp 32) rfl rfl rfl (fun w2 hw2 tw2 => ?_)
  have Pw2 := Lib.hid hw2
  have Uw2 := Lib.hid (HB2.out.turn.trans tw2 (fun q hq e => by have := HE2.out; omega))
  clear hw2 tw2
  have HO2 := Lib.hid (HO.out.turn Uw2.out (fun _ _ => id))
  have T2 := Lib.hid (T1.out.trans Uw2.out (fun _ _ => id))
  have HBW := Lib.hid (show w.heap.size ≤ B from by have := HE2.out; have := T1.out.size; omega)
  have HNE := Lib.hid (app_ne HO2.out Pw2.out)
  go_wp2_with (with_reducible (show wpList _ _ _ (Oper.mk (some 49) (.build 26 _) _ _ _ _ :: _) _ _); refine still ?_)
  refine list_exec rfl _ _ (exec_fvB _ _ _ _ 3 2 rfl rfl rfl _) ?_
  go_wp2_with (with_reducible (show wpList _ _ _ (Oper.mk none (.store 26 (.tmp 8) (.tmp 49)) _ _ _ _ :: _) _ _); refine still ?_)
  refine list_put w2 B 26 (fv 0 0) (fv 3 2) Pw2.out rfl (fv_one _ _) fv_info rfl (.tmp 8) (.tmp 49) rfl rfl rfl (fun w3 h3 t3 => ?_)
  have P3 := Lib.hid h3
  have T3 := Lib.hid (T2.out.trans t3 (fun q hq e => by have := HBW.out; omega))
  have HO3 := Lib.hid (HO2.out.turn t3 (fun q hq e => HNE.out q hq e))
  clear h3 t3
  go_wp2_with fail
  refine wp_region_held_drew (S := fun wq => wq.rangeAt B 0 (fv 3 2)) (by kernel_rfl) (range_of P3.out) (fun hHeld => ?_)
  refine wpAnyH_take (i := 0) (v := .slice (some ⟨G, 0, none⟩) 3 3) rfl (by kernel_rfl) (by kernel_rfl) (by kernel_rfl) (fun _ _ _ h => h) (Or.inl ⟨by rfl, ?yq17⟩) (by assumption) ?rq17
  case yq17 => (intro wq hSw; (try simp only [List.getElem_toArray, List.getElem_cons_zero, List.getElem_cons_succ]); go_simp; (try with_reducible rfl); all_goals (try omega))
  case rq17 =>
  try simp only [Act.put, List.setIfInBounds_toArray, List.set_cons_zero, List.set_cons_succ, List.getElem_toArray, List.getElem_cons_zero, List.getElem_cons_succ]
  refine wpAnyH_take (i := 2) (v := .agg (fv 3 2).toArray) rfl (by kernel_rfl) (by kernel_rfl) (by kernel_rfl) (fun _ _ _ h => h) (Or.inl ⟨by rfl, ?yq18⟩) (by assumption) ?rq18
  case yq18 => (intro wq hSw; exact exec_load_mid _ _ 26 (.tmp 8) rfl B 0 rfl (fv 3 2) _ wq hSw Try.underlying26 rfl fv_info)
  case rq18 =>
  try simp only [Act.put, List.setIfInBounds_toArray, List.set_cons_zero, List.set_cons_succ, List.getElem_toArray, List.getElem_cons_zero, List.getElem_cons_succ]
  refine wpAnyH_ready (rs := [1]) (by kernel_rfl) (by simp) ?_
  refine AllReadyH.cons rfl (fun K hK => ?_) AllReadyH.nil
  go_simp
  refine (rcheck_any w3.drew _ (besL a b 1) (HO3.out.turn ((Turn.refl (fun _ => False) w3).drew) (fun _ _ => id)).row (by show 3 ≤ 9223372036854775807; omega)).mono ?_
  rw [HC.out]
  rintro r w5 ⟨rfl, t5⟩
  have U5 := Lib.hid (show Turn (fun _ => False) w3 w5 from (Turn.refl (fun _ => False) w3).drew.trans t5 (fun _ _ => id))
  clear t5
  refine hK.out _ _ (rangeAt_turn (range_of P3.out) U5.out id) (fun _ => ?_)
  clear hK K
  try simp only [Act.put, List.setIfInBounds_toArray, List.set_cons_zero, List.set_cons_succ, List.getElem_toArray, List.getElem_cons_zero, List.getElem_cons_succ]
  refine wpAnyH_take (i := 3) (v := .bool true) rfl (by kernel_rfl) (by kernel_rfl) (by kernel_rfl) (fun _ _ _ h => h) (Or.inl ⟨by rfl, ?yq19⟩) (by assumption) ?rq19
  case yq19 => (intro wq hSw; exact exec_eql_fv1 _ _ rfl 3 2 _ rfl rfl)
  case rq19 =>
  try simp only [Act.put, List.setIfInBounds_toArray, List.set_cons_zero, List.set_cons_succ, List.getElem_toArray, List.getElem_cons_zero, List.getElem_cons_succ]
  refine wpAnyH_take (i := 4) (v := .bool true) rfl (by kernel_rfl) (by kernel_rfl) (by kernel_rfl) (fun _ _ _ h => h) (Or.inl ⟨by rfl, ?yq20⟩) (by assumption) ?rq20
  case yq20 => (intro wq hSw; (try simp only [List.getElem_toArray, List.getElem_cons_zero, List.getElem_cons_succ]); go_simp; (try with_reducible rfl); all_goals (try omega))
  case rq20 =>
  try simp only [Act.put, List.setIfInBounds_toArray, List.set_cons_zero, List.set_cons_succ, List.getElem_toArray, List.getElem_cons_zero, List.getElem_cons_succ]
  refine wpAnyH_done (by kernel_rfl) ?_ _
  clear hHeld
  go_wp2_with fail
  go_ret
  exact ⟨rfl, T3.out.trans U5.out (fun _ _ => id)⟩

end Go.Proofs.Ytifhnidcodhoeaa
