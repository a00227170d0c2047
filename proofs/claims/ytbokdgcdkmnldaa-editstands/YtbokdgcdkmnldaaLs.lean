/- Own contracts: EditStands. No statement is proved here. -/
import Derived.Test.YtbokdgcdkmnldaaLa
namespace Go.Proofs.Ytbokdgcdkmnldaa
set_option maxRecDepth 100000
open Go.RowKit
set_option linter.unusedVariables false
set_option linter.unusedSimpArgs false

set_option maxHeartbeats 8000000 in
theorem estd_law (w : World) (turn : Bool) : Calls Try.prog 7 #[.bool turn] w fun e w' => e = .returned (.bool true) ∧ Turn (fun _ => False) w w' := by
  go_enter Try.func7, Try.ntmps7
  go_wp2_with (with_reducible (show wpList _ _ _ (Oper.mk (some 15) (.build 24 _) _ _ _ _ :: _) _ _); refine still ?_)
  refine list_exec rfl _ _ (exec_el01 _ _ _ _ 1 1 rfl rfl rfl _) ?_
  go_wp2_with (with_reducible (show wpList _ _ _ (Oper.mk (some 16) (.build 28 _) _ _ _ _ :: _) _ _); refine still ?_)
  refine list_exec rfl _ _ (exec_edB _ _ _ _ 1 _ rfl rfl rfl _) ?_
  obtain ⟨X, hX⟩ : ∃ Z, w.heap.size = Z := ⟨_, rfl⟩
  obtain ⟨w1, hw1⟩ : ∃ wz, w.alloc (.cells ed0.vals.toArray 28) = wz := ⟨_, rfl⟩
  have hx0 : ∀ ev op, op.op = .alloc 28 → (execOp ev op).run Try.prog w = .ok (.value (.pointer (some ⟨X, 0, none⟩))) w1 := fun ev op ho => by rw [← hw1, ← hX]; exact exec_zero_ed ev op ho _
  have hb0 := box_alloc w 28 ed0.vals
  rw [hw1] at hb0
  have hh0 := hb0.heap
  rw [hX] at hh0
  have HXX0 := Lib.hid hx0
  have HB0 := Lib.hid hb0
  have HH0 := Lib.hid hh0
  have HE0 := Lib.hid hX
  clear hb0 hX hw1 hx0 hh0
  go_wp2_with (with_reducible (show wpList _ _ _ (Oper.mk (some 3) (.alloc 28) _ _ _ _ :: _) _ _); refine still ?_)
  refine list_exec rfl _ _ (HXX0.out _ _ rfl) ?_
  go_wp2_with (with_reducible (show wpList _ _ _ (Oper.mk none (.store 28 (.tmp 3) (.tmp 16)) _ _ _ _ :: _) _ _); refine still ?_)
  refine list_put w1 X 28 ed0.vals (Ed.mk 1 (El.mk 1 1 0 0 e0 0 0 e0 e0 e0) 0 0 e0 0 e0).vals HH0.out rfl (Ed.mk 1 (El.mk 1 1 0 0 e0 0 0 e0 e0 e0) 0 0 e0 0 e0).vals_one ed_info rfl (.tmp 3) (.tmp 16) rfl rfl rfl (fun w2 hw2 tw2 => ?_)
  have PX := Lib.hid hw2
  have Uw2 := Lib.hid (HB0.out.turn.trans tw2 (fun q hq e => by have := HE0.out; omega))
  have SX := Lib.hid (show w.heap.size = X from HE0.out)
  clear hw2 tw2
  go_wp2_with (with_reducible (show wpList _ _ _ (Oper.mk (some 17) (.build 24 _) _ _ _ _ :: _) _ _); refine still ?_)
  refine list_exec rfl _ _ (exec_el012 _ _ _ _ _ 2 1 1 rfl rfl rfl rfl _) ?_
  go_wp2_with (with_reducible (show wpList _ _ _ (Oper.mk (some 18) (.build 28 _) _ _ _ _ :: _) _ _); refine still ?_)
  refine list_exec rfl _ _ (exec_edB _ _ _ _ 1 _ rfl rfl rfl _) ?_
  obtain ⟨Y, hY⟩ : ∃ Z, w2.heap.size = Z := ⟨_, rfl⟩
  obtain ⟨w3, hw3⟩ : ∃ wz, w2.alloc (.cells ed0.vals.toArray 28) = wz := ⟨_, rfl⟩
  have hx1 : ∀ ev op, op.op = .alloc 28 → (execOp ev op).run Try.prog w2 = .ok (.value (.pointer (some ⟨Y, 0, none⟩))) w3 := fun ev op ho => by rw [← hw3, ← hY]; exact exec_zero_ed ev op ho _
  have hb1 := box_alloc w2 28 ed0.vals
  rw [hw3] at hb1
  have hh1 := hb1.heap
  rw [hY] at hh1
  have HXX1 := Lib.hid hx1
  have HB1 := Lib.hid hb1
  have HH1 := Lib.hid hh1
  have HE1 := Lib.hid hY
  clear hb1 hY hw3 hx1 hh1
  go_wp2_with (with_reducible (show wpList _ _ _ (Oper.mk (some 4) (.alloc 28) _ _ _ _ :: _) _ _); refine still ?_)
  refine list_exec rfl _ _ (HXX1.out _ _ rfl) ?_
  go_wp2_with (with_reducible (show wpList _ _ _ (Oper.mk none (.store 28 (.tmp 4) (.tmp 18)) _ _ _ _ :: _) _ _); refine still ?_)
  refine list_put w3 Y 28 ed0.vals (Ed.mk 1 (El.mk 2 1 1 0 e0 0 0 e0 e0 e0) 0 0 e0 0 e0).vals HH1.out rfl (Ed.mk 1 (El.mk 2 1 1 0 e0 0 0 e0 e0 e0) 0 0 e0 0 e0).vals_one ed_info rfl (.tmp 4) (.tmp 18) rfl rfl rfl (fun w4 hw4 tw4 => ?_)
  have PY := Lib.hid hw4
  have Uw4 := Lib.hid (HB1.out.turn.trans tw4 (fun q hq e => by have := HE1.out; omega))
  have SY := Lib.hid (show w2.heap.size = Y from HE1.out)
  clear hw4 tw4
  have PX4 := Lib.hid ((Uw4.out.block X (Array.getElem?_eq_some_iff.1 PX.out).1 id).trans PX.out)
  have T4 := Lib.hid (Uw2.out.trans Uw4.out (fun _ _ => id))
  go_wp2_with (with_reducible (show wpList _ _ _ (Oper.mk (some 19) (.load 28 (.tmp 3)) _ _ _ _ :: _) _ _); refine still ?_)
  refine wpList_load_mid rfl 28 (.tmp 3) rfl X 0 rfl (Ed.mk 1 (El.mk 1 1 0 0 e0 0 0 e0 e0 e0) 0 0 e0 0 e0).vals _ (range_of PX4.out) Try.underlying28 rfl ed_info ?_
  go_wp2_with (with_reducible (show wpList _ _ _ (Oper.mk (some 20) (.load 28 (.tmp 4)) _ _ _ _ :: _) _ _); refine still ?_)
  refine wpList_load_mid rfl 28 (.tmp 4) rfl Y 0 rfl (Ed.mk 1 (El.mk 2 1 1 0 e0 0 0 e0 e0 e0) 0 0 e0 0 e0).vals _ (range_of PY.out) Try.underlying28 rfl ed_info ?_
  have hoa := own_alloc_ed w4 [(Ed.mk 1 (El.mk 1 1 0 0 e0 0 0 e0 e0 e0) 0 0 e0 0 e0), (Ed.mk 1 (El.mk 2 1 1 0 e0 0 0 e0 e0 e0) 0 0 e0 0 e0)] (by decide)
  have tta := (box_alloc w4 28 (edsV [(Ed.mk 1 (El.mk 1 1 0 0 e0 0 0 e0 e0 e0) 0 0 e0 0 e0), (Ed.mk 1 (El.mk 2 1 1 0 e0 0 0 e0 e0 e0) 0 0 e0 0 e0)])).turn
  obtain ⟨Ga, hGa⟩ : ∃ G, w4.heap.size = G := ⟨_, rfl⟩
  obtain ⟨w5, hw5⟩ : ∃ wq, w4.alloc (.cells (edsV [(Ed.mk 1 (El.mk 1 1 0 0 e0 0 0 e0 e0 e0) 0 0 e0 0 e0), (Ed.mk 1 (El.mk 2 1 1 0 e0 0 0 e0 e0 e0) 0 0 e0 0 e0)]).toArray 28) = wq := ⟨_, rfl⟩
  have hxa : ∀ ev op y0 y1, op.op = .buildSlice 40 2 #[(0, y0), (1, y1)] → ev y0 = .agg (Ed.mk 1 (El.mk 1 1 0 0 e0 0 0 e0 e0 e0) 0 0 e0 0 e0).vals.toArray → ev y1 = .agg (Ed.mk 1 (El.mk 2 1 1 0 e0 0 0 e0 e0 e0) 0 0 e0 0 e0).vals.toArray → (execOp ev op).run Try.prog w4 = .ok (.value (.slice (some ⟨Ga, 0, none⟩) 2 2)) w5 := fun ev op y0 y1 ho h0 h1 => by rw [← hw5, ← hGa]; exact exec_eds2 ev op y0 y1 ho _ _ h0 h1 _
  rw [hw5] at hoa tta
  rw [hGa] at hoa
  have HOa := Lib.hid (show EdV w5 (.slice (some ⟨Ga, 0, none⟩) 2 2) [(Ed.mk 1 (El.mk 1 1 0 0 e0 0 0 e0 e0 e0) 0 0 e0 0 e0), (Ed.mk 1 (El.mk 2 1 1 0 e0 0 0 e0 e0 e0) 0 0 e0 0 e0)] from hoa.row)
  have TTa := Lib.hid tta
  have HXSa := Lib.hid hxa
  clear hoa tta hGa hw5 hxa
  go_wp2_with (with_reducible (show wpList _ _ _ (Oper.mk (some 21) (.buildSlice 40 _ _) _ _ _ _ :: _) _ _); refine still ?_)
  refine list_exec rfl _ _ (HXSa.out _ _ (.tmp 19) (.tmp 20) rfl rfl rfl) ?_
  have PX5 := Lib.hid ((TTa.out.block X (Array.getElem?_eq_some_iff.1 PX4.out).1 id).trans PX4.out)
  have PY5 := Lib.hid ((TTa.out.block Y (Array.getElem?_eq_some_iff.1 PY.out).1 id).trans PY.out)
  have T5 := Lib.hid (T4.out.trans TTa.out (fun _ _ => id))
  cases turn
  · go_wp2_with fail
    have HA := Lib.hid (show applyE [] [(Ed.mk 1 (El.mk 1 1 0 0 e0 0 0 e0 e0 e0) 0 0 e0 0 e0), (Ed.mk 1 (El.mk 2 1 1 0 e0 0 0 e0 e0 e0) 0 0 e0 0 e0)] = ([(Ed.mk 1 (El.mk 1 1 0 0 e0 0 0 e0 e0 e0) 0 0 e0 0 e0).e, (Ed.mk 1 (El.mk 2 1 1 0 e0 0 0 e0 e0 e0) 0 0 e0 0 e0).e], 0, 0) from by decide +kernel)
    refine (apply_any w5 (.slice none 0 0) _ [] [(Ed.mk 1 (El.mk 1 1 0 0 e0 0 0 e0 e0 e0) 0 0 e0 0 e0), (Ed.mk 1 (El.mk 2 1 1 0 e0 0 0 e0 e0 e0) 0 0 e0 0 e0)] (.inl ⟨rfl, rfl⟩) HOa.out (by decide) (fun y hy => by cases hy) (fun y hy => by simp only [List.mem_cons, List.not_mem_nil, or_false] at hy; rcases hy with rfl | rfl <;> (unfold EdOk; decide))).mono ?_
    rintro r w6 ⟨v6, rfl, hv6, t6⟩
    rw [HA.out] at hv6 ⊢
    obtain ⟨a6, c6, rfl⟩ := hv6.form
    have T6 := Lib.hid (T5.out.trans t6 (fun _ _ => id))
    have HC6 := Lib.hid hv6
    have PX6 := Lib.hid ((t6.block X (Array.getElem?_eq_some_iff.1 PX5.out).1 id).trans PX5.out)
    have PY6 := Lib.hid ((t6.block Y (Array.getElem?_eq_some_iff.1 PY5.out).1 id).trans PY5.out)
    clear hv6 t6
    go_wp2_with (with_reducible (show wpList _ _ _ (Oper.mk (some 48) (.load 24 (.tmp 47)) _ _ _ _ :: _) _ _); refine still ?_)
    refine wpList_load_mid rfl 24 (.tmp 47) rfl X 1 rfl (Ed.mk 1 (El.mk 1 1 0 0 e0 0 0 e0 e0 e0) 0 0 e0 0 e0).e.vals _ (by have := edE (range_of PX6.out); rwa [Nat.zero_add] at this) Try.underlying24 rfl el_info ?_
    go_wp2_with (with_reducible (show wpList _ _ _ (Oper.mk (some 49) (.build 28 _) _ _ _ _ :: _) _ _); refine still ?_)
    refine list_exec rfl _ _ (exec_edB _ _ _ _ 2 _ rfl rfl rfl _) ?_
    obtain ⟨Z, hZ⟩ : ∃ Z, w6.heap.size = Z := ⟨_, rfl⟩
    obtain ⟨w7, hw7⟩ : ∃ wz, w6.alloc (.cells ed0.vals.toArray 28) = wz := ⟨_, rfl⟩
    have hx2 : ∀ ev op, op.op = .alloc 28 → (execOp ev op).run Try.prog w6 = .ok (.value (.pointer (some ⟨Z, 0, none⟩))) w7 := fun ev op ho => by rw [← hw7, ← hZ]; exact exec_zero_ed ev op ho _
    have hb2 := box_alloc w6 28 ed0.vals
    rw [hw7] at hb2
    have hh2 := hb2.heap
    rw [hZ] at hh2
    have HXX2 := Lib.hid hx2
    have HB2 := Lib.hid hb2
    have HH2 := Lib.hid hh2
    have HE2 := Lib.hid hZ
    clear hb2 hZ hw7 hx2 hh2
    go_wp2_with (with_reducible (show wpList _ _ _ (Oper.mk (some 9) (.alloc 28) _ _ _ _ :: _) _ _); refine still ?_)
    refine list_exec rfl _ _ (HXX2.out _ _ rfl) ?_
    go_wp2_with (with_reducible (show wpList _ _ _ (Oper.mk none (.store 28 (.tmp 9) (.tmp 49)) _ _ _ _ :: _) _ _); refine still ?_)
    refine list_put w7 Z 28 ed0.vals (Ed.mk 2 (El.mk 1 1 0 0 e0 0 0 e0 e0 e0) 0 0 e0 0 e0).vals HH2.out rfl (Ed.mk 2 (El.mk 1 1 0 0 e0 0 0 e0 e0 e0) 0 0 e0 0 e0).vals_one ed_info rfl (.tmp 9) (.tmp 49) rfl rfl rfl (fun w8 hw8 tw8 => ?_)
    have PZ := Lib.hid hw8
    have Uw8 := Lib.hid (HB2.out.turn.trans tw8 (fun q hq e => by have := HE2.out; omega))
    have SZ := Lib.hid (show w6.heap.size = Z from HE2.out)
    clear hw8 tw8
    have T8 := Lib.hid (T6.out.trans Uw8.out (fun _ _ => id))
    have HC8 := Lib.hid (HC6.out.turn Uw8.out (fun _ _ => id))
    have PY8 := Lib.hid ((Uw8.out.block Y (Array.getElem?_eq_some_iff.1 PY6.out).1 id).trans PY6.out)
    go_wp2_with (with_reducible (show wpList _ _ _ (Oper.mk (some 52) (.load 28 (.tmp 9)) _ _ _ _ :: _) _ _); refine still ?_)
    refine wpList_load_mid rfl 28 (.tmp 9) rfl Z 0 rfl (Ed.mk 2 (El.mk 1 1 0 0 e0 0 0 e0 e0 e0) 0 0 e0 0 e0).vals _ (range_of PZ.out) Try.underlying28 rfl ed_info ?_
    go_wp2_with fail
    have HB1 := Lib.hid (show oneE [(Ed.mk 1 (El.mk 1 1 0 0 e0 0 0 e0 e0 e0) 0 0 e0 0 e0).e, (Ed.mk 1 (El.mk 2 1 1 0 e0 0 0 e0 e0 e0) 0 0 e0 0 e0).e] (Ed.mk 2 (El.mk 1 1 0 0 e0 0 0 e0 e0 e0) 0 0 e0 0 e0) = ([], 14) from by decide +kernel)
    have HKK := Lib.hid (show KOk [(Ed.mk 1 (El.mk 1 1 0 0 e0 0 0 e0 e0 e0) 0 0 e0 0 e0).e, (Ed.mk 1 (El.mk 2 1 1 0 e0 0 0 e0 e0 e0) 0 0 e0 0 e0).e] from fun y hy => by simp only [List.mem_cons, List.not_mem_nil, or_false] at hy; rcases hy with rfl | rfl <;> decide)
    refine (one_any w8 _ [(Ed.mk 1 (El.mk 1 1 0 0 e0 0 0 e0 e0 e0) 0 0 e0 0 e0).e, (Ed.mk 1 (El.mk 2 1 1 0 e0 0 0 e0 e0 e0) 0 0 e0 0 e0).e] (Ed.mk 2 (El.mk 1 1 0 0 e0 0 0 e0 e0 e0) 0 0 e0 0 e0) HC8.out (by decide) HKK.out).mono ?_
    rintro r w9 ⟨v9, rfl, hv9, t9, _⟩
    rw [HB1.out] at hv9 ⊢
    have T9 := Lib.hid (T8.out.trans t9 (fun _ _ => id))
    have HC9 := Lib.hid (HC8.out.turn t9 (fun _ _ => id))
    have PY9 := Lib.hid ((t9.block Y (Array.getElem?_eq_some_iff.1 PY8.out).1 id).trans PY8.out)
    have PZ9 := Lib.hid ((t9.block Z (Array.getElem?_eq_some_iff.1 PZ.out).1 id).trans PZ.out)
    clear hv9 t9
    go_wp2_with (with_reducible (show wpList _ _ _ (Oper.mk (some 59) (.load 24 (.tmp 58)) _ _ _ _ :: _) _ _); refine still ?_)
    refine wpList_load_mid rfl 24 (.tmp 58) rfl Y 1 rfl (Ed.mk 1 (El.mk 2 1 1 0 e0 0 0 e0 e0 e0) 0 0 e0 0 e0).e.vals _ (by have := edE (range_of PY9.out); rwa [Nat.zero_add] at this) Try.underlying24 rfl el_info ?_
    go_wp2_with (with_reducible (show wpList _ _ _ (Oper.mk (some 60) (.build 28 _) _ _ _ _ :: _) _ _); refine still ?_)
    refine list_exec rfl _ _ (exec_edB _ _ _ _ 2 _ rfl rfl rfl _) ?_
    go_wp2_with (with_reducible (show wpList _ _ _ (Oper.mk (some 61) (.load 28 (.tmp 9)) _ _ _ _ :: _) _ _); refine still ?_)
    refine wpList_load_mid rfl 28 (.tmp 9) rfl Z 0 rfl (Ed.mk 2 (El.mk 1 1 0 0 e0 0 0 e0 e0 e0) 0 0 e0 0 e0).vals _ (range_of PZ9.out) Try.underlying28 rfl ed_info ?_
    have hob := own_alloc_ed w9 [(Ed.mk 2 (El.mk 2 1 1 0 e0 0 0 e0 e0 e0) 0 0 e0 0 e0), (Ed.mk 2 (El.mk 1 1 0 0 e0 0 0 e0 e0 e0) 0 0 e0 0 e0)] (by decide)
    have ttb := (box_alloc w9 28 (edsV [(Ed.mk 2 (El.mk 2 1 1 0 e0 0 0 e0 e0 e0) 0 0 e0 0 e0), (Ed.mk 2 (El.mk 1 1 0 0 e0 0 0 e0 e0 e0) 0 0 e0 0 e0)])).turn
    obtain ⟨Gb, hGb⟩ : ∃ G, w9.heap.size = G := ⟨_, rfl⟩
    obtain ⟨w10, hw10⟩ : ∃ wq, w9.alloc (.cells (edsV [(Ed.mk 2 (El.mk 2 1 1 0 e0 0 0 e0 e0 e0) 0 0 e0 0 e0), (Ed.mk 2 (El.mk 1 1 0 0 e0 0 0 e0 e0 e0) 0 0 e0 0 e0)]).toArray 28) = wq := ⟨_, rfl⟩
    have hxb : ∀ ev op y0 y1, op.op = .buildSlice 40 2 #[(0, y0), (1, y1)] → ev y0 = .agg (Ed.mk 2 (El.mk 2 1 1 0 e0 0 0 e0 e0 e0) 0 0 e0 0 e0).vals.toArray → ev y1 = .agg (Ed.mk 2 (El.mk 1 1 0 0 e0 0 0 e0 e0 e0) 0 0 e0 0 e0).vals.toArray → (execOp ev op).run Try.prog w9 = .ok (.value (.slice (some ⟨Gb, 0, none⟩) 2 2)) w10 := fun ev op y0 y1 ho h0 h1 => by rw [← hw10, ← hGb]; exact exec_eds2 ev op y0 y1 ho _ _ h0 h1 _
    rw [hw10] at hob ttb
    rw [hGb] at hob
    have HOb := Lib.hid (show EdV w10 (.slice (some ⟨Gb, 0, none⟩) 2 2) [(Ed.mk 2 (El.mk 2 1 1 0 e0 0 0 e0 e0 e0) 0 0 e0 0 e0), (Ed.mk 2 (El.mk 1 1 0 0 e0 0 0 e0 e0 e0) 0 0 e0 0 e0)] from hob.row)
    have TTb := Lib.hid ttb
    have HXSb := Lib.hid hxb
    clear hob ttb hGb hw10 hxb
    go_wp2_with (with_reducible (show wpList _ _ _ (Oper.mk (some 62) (.buildSlice 40 _ _) _ _ _ _ :: _) _ _); refine still ?_)
    refine list_exec rfl _ _ (HXSb.out _ _ (.tmp 60) (.tmp 61) rfl rfl rfl) ?_
    have T10 := Lib.hid (T9.out.trans TTb.out (fun _ _ => id))
    go_wp2_with fail
    have HA2 := Lib.hid (show applyE [(Ed.mk 1 (El.mk 1 1 0 0 e0 0 0 e0 e0 e0) 0 0 e0 0 e0).e, (Ed.mk 1 (El.mk 2 1 1 0 e0 0 0 e0 e0 e0) 0 0 e0 0 e0).e] [(Ed.mk 2 (El.mk 2 1 1 0 e0 0 0 e0 e0 e0) 0 0 e0 0 e0), (Ed.mk 2 (El.mk 1 1 0 0 e0 0 0 e0 e0 e0) 0 0 e0 0 e0)] = ([], 0, 0) from by decide +kernel)
    refine (apply_any w10 _ _ [(Ed.mk 1 (El.mk 1 1 0 0 e0 0 0 e0 e0 e0) 0 0 e0 0 e0).e, (Ed.mk 1 (El.mk 2 1 1 0 e0 0 0 e0 e0 e0) 0 0 e0 0 e0).e] [(Ed.mk 2 (El.mk 2 1 1 0 e0 0 0 e0 e0 e0) 0 0 e0 0 e0), (Ed.mk 2 (El.mk 1 1 0 0 e0 0 0 e0 e0 e0) 0 0 e0 0 e0)] (HC9.out.turn TTb.out (fun _ _ => id)) HOb.out (by decide) HKK.out (fun y hy => by simp only [List.mem_cons, List.not_mem_nil, or_false] at hy; rcases hy with rfl | rfl <;> (unfold EdOk; decide))).mono ?_
    rintro r w11 ⟨v11, rfl, hv11, t11⟩
    rw [HA2.out] at hv11 ⊢
    obtain ⟨a11, c11, rfl⟩ := hv11.form
    have T11 := Lib.hid (T10.out.trans t11 (fun _ _ => id))
    clear hv11 t11
    go_wp2_with fail
    refine (awake_any w11).mono ?_
    rintro r w12 ⟨rfl, t12⟩
    go_wp2_with fail
    go_ret
    exact ⟨rfl, T11.out.trans t12 (fun _ _ => id)⟩
  · go_wp2_with (with_reducible (show wpList _ _ _ (Oper.mk (some 23) (.load 28 (.tmp 4)) _ _ _ _ :: _) _ _); refine still ?_)
    refine wpList_load_mid rfl 28 (.tmp 4) rfl Y 0 rfl (Ed.mk 1 (El.mk 2 1 1 0 e0 0 0 e0 e0 e0) 0 0 e0 0 e0).vals _ (range_of PY5.out) Try.underlying28 rfl ed_info ?_
    go_wp2_with (with_reducible (show wpList _ _ _ (Oper.mk (some 24) (.load 28 (.tmp 3)) _ _ _ _ :: _) _ _); refine still ?_)
    refine wpList_load_mid rfl 28 (.tmp 3) rfl X 0 rfl (Ed.mk 1 (El.mk 1 1 0 0 e0 0 0 e0 e0 e0) 0 0 e0 0 e0).vals _ (range_of PX5.out) Try.underlying28 rfl ed_info ?_
    have hob := own_alloc_ed w5 [(Ed.mk 1 (El.mk 2 1 1 0 e0 0 0 e0 e0 e0) 0 0 e0 0 e0), (Ed.mk 1 (El.mk 1 1 0 0 e0 0 0 e0 e0 e0) 0 0 e0 0 e0)] (by decide)
    have ttb := (box_alloc w5 28 (edsV [(Ed.mk 1 (El.mk 2 1 1 0 e0 0 0 e0 e0 e0) 0 0 e0 0 e0), (Ed.mk 1 (El.mk 1 1 0 0 e0 0 0 e0 e0 e0) 0 0 e0 0 e0)])).turn
    obtain ⟨Gb, hGb⟩ : ∃ G, w5.heap.size = G := ⟨_, rfl⟩
    obtain ⟨w6, hw6⟩ : ∃ wq, w5.alloc (.cells (edsV [(Ed.mk 1 (El.mk 2 1 1 0 e0 0 0 e0 e0 e0) 0 0 e0 0 e0), (Ed.mk 1 (El.mk 1 1 0 0 e0 0 0 e0 e0 e0) 0 0 e0 0 e0)]).toArray 28) = wq := ⟨_, rfl⟩
    have hxb : ∀ ev op y0 y1, op.op = .buildSlice 40 2 #[(0, y0), (1, y1)] → ev y0 = .agg (Ed.mk 1 (El.mk 2 1 1 0 e0 0 0 e0 e0 e0) 0 0 e0 0 e0).vals.toArray → ev y1 = .agg (Ed.mk 1 (El.mk 1 1 0 0 e0 0 0 e0 e0 e0) 0 0 e0 0 e0).vals.toArray → (execOp ev op).run Try.prog w5 = .ok (.value (.slice (some ⟨Gb, 0, none⟩) 2 2)) w6 := fun ev op y0 y1 ho h0 h1 => by rw [← hw6, ← hGb]; exact exec_eds2 ev op y0 y1 ho _ _ h0 h1 _
    rw [hw6] at hob ttb
    rw [hGb] at hob
    have HOb := Lib.hid (show EdV w6 (.slice (some ⟨Gb, 0, none⟩) 2 2) [(Ed.mk 1 (El.mk 2 1 1 0 e0 0 0 e0 e0 e0) 0 0 e0 0 e0), (Ed.mk 1 (El.mk 1 1 0 0 e0 0 0 e0 e0 e0) 0 0 e0 0 e0)] from hob.row)
    have TTb := Lib.hid ttb
    have HXSb := Lib.hid hxb
    clear hob ttb hGb hw6 hxb
    go_wp2_with (with_reducible (show wpList _ _ _ (Oper.mk (some 25) (.buildSlice 40 _ _) _ _ _ _ :: _) _ _); refine still ?_)
    refine list_exec rfl _ _ (HXSb.out _ _ (.tmp 23) (.tmp 24) rfl rfl rfl) ?_
    have T6 := Lib.hid (T5.out.trans TTb.out (fun _ _ => id))
    go_wp2_with fail
    have HA := Lib.hid (show applyE [] [(Ed.mk 1 (El.mk 2 1 1 0 e0 0 0 e0 e0 e0) 0 0 e0 0 e0), (Ed.mk 1 (El.mk 1 1 0 0 e0 0 0 e0 e0 e0) 0 0 e0 0 e0)] = ([], 0, 14) from by decide +kernel)
    refine (apply_any w6 (.slice none 0 0) _ [] [(Ed.mk 1 (El.mk 2 1 1 0 e0 0 0 e0 e0 e0) 0 0 e0 0 e0), (Ed.mk 1 (El.mk 1 1 0 0 e0 0 0 e0 e0 e0) 0 0 e0 0 e0)] (.inl ⟨rfl, rfl⟩) HOb.out (by decide) (fun y hy => by cases hy) (fun y hy => by simp only [List.mem_cons, List.not_mem_nil, or_false] at hy; rcases hy with rfl | rfl <;> (unfold EdOk; decide))).mono ?_
    rintro r w7 ⟨v7, rfl, hv7, t7⟩
    rw [HA.out] at hv7 ⊢
    obtain ⟨a7, c7, rfl⟩ := hv7.form
    have T7 := Lib.hid (T6.out.trans t7 (fun _ _ => id))
    clear hv7 t7
    go_wp2_with fail
    refine (awake_any w7).mono ?_
    rintro r w8 ⟨rfl, t8⟩
    go_wp2_with fail
    go_ret
    exact ⟨rfl, T7.out.trans t8 (fun _ _ => id)⟩

end Go.Proofs.Ytbokdgcdkmnldaa
