/- Own contracts: the document's set. No statement is proved here. -/
import Derived.Test.YtbokdgcdkmnldaaWi
namespace Go.Proofs.Ytbokdgcdkmnldaa
set_option maxRecDepth 100000
open Go.RowKit
set_option linter.unusedVariables false
set_option linter.unusedSimpArgs false

set_option maxHeartbeats 4000000 in
theorem rset_any (w : World) (o : El) (f : Int) (n : Int) (s : ByteArray) : Calls Try.prog 35 #[.agg o.vals.toArray, .int .i64 f, .agg (vl n s).toArray] w (WithPost w (setV o f n s)) := by
  have hbx := box_alloc w 24 o.vals
  obtain ⟨X, hX⟩ : ∃ X, w.heap.size = X := ⟨_, rfl⟩
  obtain ⟨w1, hw1⟩ : ∃ w1, w.alloc (.cells o.vals.toArray 24) = w1 := ⟨_, rfl⟩
  rw [hw1] at hbx
  have hby := box_alloc w1 26 (vl n s)
  obtain ⟨Y, hY⟩ : ∃ Y, w1.heap.size = Y := ⟨_, rfl⟩
  obtain ⟨w2, hw2⟩ : ∃ w2, w1.alloc (.cells (vl n s).toArray 26) = w2 := ⟨_, rfl⟩
  rw [hw2] at hby
  have hbz := box_alloc w2 24 el0.vals
  obtain ⟨Z, hZ⟩ : ∃ Z, w2.heap.size = Z := ⟨_, rfl⟩
  obtain ⟨w3, hw3⟩ : ∃ w3, w2.alloc (.cells el0.vals.toArray 24) = w3 := ⟨_, rfl⟩
  rw [hw3] at hbz
  have hx0 : ∀ ev op, op.op = .alloc 24 → (execOp ev op).run Try.prog w2 = .ok (.value (.pointer (some ⟨Z, 0, none⟩))) w3 := fun ev op ho => by rw [← hw3, ← hZ]; exact exec_zero24 ev op ho _
  have hzh := hbz.heap
  rw [hZ] at hzh
  have hYX : Y = X + 1 := by rw [← hY, hbx.size, hX]
  have hZY : Z = Y + 1 := by rw [← hZ, hby.size, hY]
  have hxh : w3.heap[X]? = some (.cells o.vals.toArray 24 (0, 0)) := by
    rw [hbz.turn.block X (by omega) id, hby.turn.block X (by omega) id, ← hX]; exact hbx.heap
  have hyh : w3.heap[Y]? = some (.cells (vl n s).toArray 26 (0, 0)) := by
    rw [hbz.turn.block Y (by omega) id, ← hY]; exact hby.heap
  have k0 : w3.cell? ⟨Y, 0, none⟩ = some (.int .i64 n) := by rw [cell_of_row w3 Y 0 _ 26 (0, 0) hyh]; rfl
  have k1 : w3.cell? ⟨Y, 1, none⟩ = some (.string s) := by rw [cell_of_row w3 Y 1 _ 26 (0, 0) hyh]; rfl
  have HT := Lib.hid ((hbx.turn.trans hby.turn (fun _ _ => id)).trans hbz.turn (fun _ _ => id))
  have HXH := Lib.hid hxh
  have HZH := Lib.hid hzh
  have HX0 := Lib.hid hx0
  have HWS := Lib.hid (show w.heap.size < Y ∧ Y < Z ∧ w.heap.size = X by omega)
  have c0 : w3.cell? ⟨X, 0, none⟩ = some (.int .i64 o.id) := by rw [cell_of_row w3 X 0 _ 24 (0, 0) hxh]; rfl
  have g0 : w3.frozen? ⟨X, 0, none⟩ = false := frozen_of_row w3 X 0 _ 24 hxh
  have c1 : w3.cell? ⟨X, 1, none⟩ = some (.int .u8 o.kind) := by rw [cell_of_row w3 X 1 _ 24 (0, 0) hxh]; rfl
  have g1 : w3.frozen? ⟨X, 1, none⟩ = false := frozen_of_row w3 X 1 _ 24 hxh
  have c2 : w3.cell? ⟨X, 2, none⟩ = some (.int .i64 o.par) := by rw [cell_of_row w3 X 2 _ 24 (0, 0) hxh]; rfl
  have g2 : w3.frozen? ⟨X, 2, none⟩ = false := frozen_of_row w3 X 2 _ 24 hxh
  have c3 : w3.cell? ⟨X, 3, none⟩ = some (.int .i64 o.ord) := by rw [cell_of_row w3 X 3 _ 24 (0, 0) hxh]; rfl
  have g3 : w3.frozen? ⟨X, 3, none⟩ = false := frozen_of_row w3 X 3 _ 24 hxh
  have c4 : w3.cell? ⟨X, 4, none⟩ = some (.string o.name) := by rw [cell_of_row w3 X 4 _ 24 (0, 0) hxh]; rfl
  have g4 : w3.frozen? ⟨X, 4, none⟩ = false := frozen_of_row w3 X 4 _ 24 hxh
  have c5 : w3.cell? ⟨X, 5, none⟩ = some (.int .i64 o.frm) := by rw [cell_of_row w3 X 5 _ 24 (0, 0) hxh]; rfl
  have g5 : w3.frozen? ⟨X, 5, none⟩ = false := frozen_of_row w3 X 5 _ 24 hxh
  have c6 : w3.cell? ⟨X, 6, none⟩ = some (.int .i64 o.to) := by rw [cell_of_row w3 X 6 _ 24 (0, 0) hxh]; rfl
  have g6 : w3.frozen? ⟨X, 6, none⟩ = false := frozen_of_row w3 X 6 _ 24 hxh
  have c7 : w3.cell? ⟨X, 7, none⟩ = some (.string o.ev) := by rw [cell_of_row w3 X 7 _ 24 (0, 0) hxh]; rfl
  have g7 : w3.frozen? ⟨X, 7, none⟩ = false := frozen_of_row w3 X 7 _ 24 hxh
  have c8 : w3.cell? ⟨X, 8, none⟩ = some (.string o.gd) := by rw [cell_of_row w3 X 8 _ 24 (0, 0) hxh]; rfl
  have g8 : w3.frozen? ⟨X, 8, none⟩ = false := frozen_of_row w3 X 8 _ 24 hxh
  have c9 : w3.cell? ⟨X, 9, none⟩ = some (.string o.ac) := by rw [cell_of_row w3 X 9 _ 24 (0, 0) hxh]; rfl
  have g9 : w3.frozen? ⟨X, 9, none⟩ = false := frozen_of_row w3 X 9 _ 24 hxh
  clear hbx hby hbz hx0 hyh hxh hzh hYX hZY hZ hw3
  by_cases hf : 0 ≤ f ∧ f ≤ 8
  · have hcs : f = 0 ∨ f = 1 ∨ f = 2 ∨ f = 3 ∨ f = 4 ∨ f = 5 ∨ f = 6 ∨ f = 7 ∨ f = 8 := by omega
    clear hf
    rcases hcs with rfl | rfl | rfl | rfl | rfl | rfl | rfl | rfl | rfl
    · obtain ⟨E, hE⟩ : ∃ E : El, { o with kind := n % 256 } = E := ⟨_, rfl⟩
      have hEv : o.vals.toArray.setIfInBounds 1 (.int .u8 (n % 256)) = E.vals.toArray := by rw [← hE]; rfl
      have hX4 := heap_setCell_same w3 X 1 o.vals.toArray 24 (.int .u8 (n % 256)) HXH.out
      rw [hEv] at hX4
      have t4 : Turn (fun q => q = X) w3 (w3.setCell ⟨X, 1, none⟩ (.int .u8 (n % 256))) := (Turn.refl (fun q => q = X) w3).setCell (p := ⟨X, 1, none⟩) (fun _ => rfl) _
      obtain ⟨w4, hw4⟩ : ∃ w4, w3.setCell ⟨X, 1, none⟩ (.int .u8 (n % 256)) = w4 := ⟨_, rfl⟩
      rw [hw4] at hX4 t4
      have HX4 := Lib.hid hX4
      have HZ4 := Lib.hid ((t4.block Z (Array.getElem?_eq_some_iff.1 HZH.out).1 (by have := HWS.out; omega)).trans HZH.out)
      have HT4 := Lib.hid (HT.out.trans t4 (fun q hq e => by have := HWS.out; omega))
      have HE := Lib.hid hE
      clear hEv hX4 t4 hE
      go_enter Try.func35, Try.ntmps35
      go_wp2_with (with_reducible (show wpList _ _ _ (Oper.mk (some 6) (.alloc 24) _ _ _ _ :: _) _ _); refine still ?_)
      refine list_exec rfl _ _ (HX0.out _ _ rfl) ?_
      go_wp2_with (with_reducible (show wpList _ _ _ (Oper.mk (some 54) (.load 24 (.tmp 3)) _ _ _ _ :: _) _ _); refine still ?_)
      refine wpList_load_mid rfl 24 (.tmp 3) rfl X 0 rfl E.vals _ (range_of HX4.out) Try.underlying24 rfl el_info ?_
      go_wp2_with (with_reducible (show wpList _ _ _ (Oper.mk none (.store 24 (.tmp 6) (.tmp 54)) _ _ _ _ :: _) _ _); refine still ?_)
      refine list_put w4 Z 24 el0.vals E.vals HZ4.out rfl E.vals_one el_info rfl (.tmp 6) (.tmp 54) rfl rfl rfl (fun w5 h5 t5 => ?_)
      have H5 := Lib.hid h5
      have HT5 := Lib.hid (HT4.out.trans t5 (fun q hq e => by have := HWS.out; omega))
      clear h5 t5
      go_wp2_with fail
      refine bodyPost_ret (run_cell Try.f35 6 24 (by kernel_rfl) Z _ w5 (range_of H5.out) Try.underlying24 rfl el_info _ rfl) rfl ?_
      exact ⟨by rw [← HE.out]; first | rfl | simp [setV], HT5.out⟩
    · obtain ⟨E, hE⟩ : ∃ E : El, { o with par := n } = E := ⟨_, rfl⟩
      have hEv : o.vals.toArray.setIfInBounds 2 (.int .i64 n) = E.vals.toArray := by rw [← hE]; rfl
      have hX4 := heap_setCell_same w3 X 2 o.vals.toArray 24 (.int .i64 n) HXH.out
      rw [hEv] at hX4
      have t4 : Turn (fun q => q = X) w3 (w3.setCell ⟨X, 2, none⟩ (.int .i64 n)) := (Turn.refl (fun q => q = X) w3).setCell (p := ⟨X, 2, none⟩) (fun _ => rfl) _
      obtain ⟨w4, hw4⟩ : ∃ w4, w3.setCell ⟨X, 2, none⟩ (.int .i64 n) = w4 := ⟨_, rfl⟩
      rw [hw4] at hX4 t4
      have HX4 := Lib.hid hX4
      have HZ4 := Lib.hid ((t4.block Z (Array.getElem?_eq_some_iff.1 HZH.out).1 (by have := HWS.out; omega)).trans HZH.out)
      have HT4 := Lib.hid (HT.out.trans t4 (fun q hq e => by have := HWS.out; omega))
      have HE := Lib.hid hE
      clear hEv hX4 t4 hE
      go_enter Try.func35, Try.ntmps35
      go_wp2_with (with_reducible (show wpList _ _ _ (Oper.mk (some 6) (.alloc 24) _ _ _ _ :: _) _ _); refine still ?_)
      refine list_exec rfl _ _ (HX0.out _ _ rfl) ?_
      go_wp2_with (with_reducible (show wpList _ _ _ (Oper.mk (some 54) (.load 24 (.tmp 3)) _ _ _ _ :: _) _ _); refine still ?_)
      refine wpList_load_mid rfl 24 (.tmp 3) rfl X 0 rfl E.vals _ (range_of HX4.out) Try.underlying24 rfl el_info ?_
      go_wp2_with (with_reducible (show wpList _ _ _ (Oper.mk none (.store 24 (.tmp 6) (.tmp 54)) _ _ _ _ :: _) _ _); refine still ?_)
      refine list_put w4 Z 24 el0.vals E.vals HZ4.out rfl E.vals_one el_info rfl (.tmp 6) (.tmp 54) rfl rfl rfl (fun w5 h5 t5 => ?_)
      have H5 := Lib.hid h5
      have HT5 := Lib.hid (HT4.out.trans t5 (fun q hq e => by have := HWS.out; omega))
      clear h5 t5
      go_wp2_with fail
      refine bodyPost_ret (run_cell Try.f35 6 24 (by kernel_rfl) Z _ w5 (range_of H5.out) Try.underlying24 rfl el_info _ rfl) rfl ?_
      exact ⟨by rw [← HE.out]; first | rfl | simp [setV], HT5.out⟩
    · obtain ⟨E, hE⟩ : ∃ E : El, { o with ord := n } = E := ⟨_, rfl⟩
      have hEv : o.vals.toArray.setIfInBounds 3 (.int .i64 n) = E.vals.toArray := by rw [← hE]; rfl
      have hX4 := heap_setCell_same w3 X 3 o.vals.toArray 24 (.int .i64 n) HXH.out
      rw [hEv] at hX4
      have t4 : Turn (fun q => q = X) w3 (w3.setCell ⟨X, 3, none⟩ (.int .i64 n)) := (Turn.refl (fun q => q = X) w3).setCell (p := ⟨X, 3, none⟩) (fun _ => rfl) _
      obtain ⟨w4, hw4⟩ : ∃ w4, w3.setCell ⟨X, 3, none⟩ (.int .i64 n) = w4 := ⟨_, rfl⟩
      rw [hw4] at hX4 t4
      have HX4 := Lib.hid hX4
      have HZ4 := Lib.hid ((t4.block Z (Array.getElem?_eq_some_iff.1 HZH.out).1 (by have := HWS.out; omega)).trans HZH.out)
      have HT4 := Lib.hid (HT.out.trans t4 (fun q hq e => by have := HWS.out; omega))
      have HE := Lib.hid hE
      clear hEv hX4 t4 hE
      go_enter Try.func35, Try.ntmps35
      go_wp2_with (with_reducible (show wpList _ _ _ (Oper.mk (some 6) (.alloc 24) _ _ _ _ :: _) _ _); refine still ?_)
      refine list_exec rfl _ _ (HX0.out _ _ rfl) ?_
      go_wp2_with (with_reducible (show wpList _ _ _ (Oper.mk (some 54) (.load 24 (.tmp 3)) _ _ _ _ :: _) _ _); refine still ?_)
      refine wpList_load_mid rfl 24 (.tmp 3) rfl X 0 rfl E.vals _ (range_of HX4.out) Try.underlying24 rfl el_info ?_
      go_wp2_with (with_reducible (show wpList _ _ _ (Oper.mk none (.store 24 (.tmp 6) (.tmp 54)) _ _ _ _ :: _) _ _); refine still ?_)
      refine list_put w4 Z 24 el0.vals E.vals HZ4.out rfl E.vals_one el_info rfl (.tmp 6) (.tmp 54) rfl rfl rfl (fun w5 h5 t5 => ?_)
      have H5 := Lib.hid h5
      have HT5 := Lib.hid (HT4.out.trans t5 (fun q hq e => by have := HWS.out; omega))
      clear h5 t5
      go_wp2_with fail
      refine bodyPost_ret (run_cell Try.f35 6 24 (by kernel_rfl) Z _ w5 (range_of H5.out) Try.underlying24 rfl el_info _ rfl) rfl ?_
      exact ⟨by rw [← HE.out]; first | rfl | simp [setV], HT5.out⟩
    · obtain ⟨E, hE⟩ : ∃ E : El, { o with name := s } = E := ⟨_, rfl⟩
      have hEv : o.vals.toArray.setIfInBounds 4 (.string s) = E.vals.toArray := by rw [← hE]; rfl
      have hX4 := heap_setCell_same w3 X 4 o.vals.toArray 24 (.string s) HXH.out
      rw [hEv] at hX4
      have t4 : Turn (fun q => q = X) w3 (w3.setCell ⟨X, 4, none⟩ (.string s)) := (Turn.refl (fun q => q = X) w3).setCell (p := ⟨X, 4, none⟩) (fun _ => rfl) _
      obtain ⟨w4, hw4⟩ : ∃ w4, w3.setCell ⟨X, 4, none⟩ (.string s) = w4 := ⟨_, rfl⟩
      rw [hw4] at hX4 t4
      have HX4 := Lib.hid hX4
      have HZ4 := Lib.hid ((t4.block Z (Array.getElem?_eq_some_iff.1 HZH.out).1 (by have := HWS.out; omega)).trans HZH.out)
      have HT4 := Lib.hid (HT.out.trans t4 (fun q hq e => by have := HWS.out; omega))
      have HE := Lib.hid hE
      clear hEv hX4 t4 hE
      go_enter Try.func35, Try.ntmps35
      go_wp2_with (with_reducible (show wpList _ _ _ (Oper.mk (some 6) (.alloc 24) _ _ _ _ :: _) _ _); refine still ?_)
      refine list_exec rfl _ _ (HX0.out _ _ rfl) ?_
      go_wp2_with (with_reducible (show wpList _ _ _ (Oper.mk (some 54) (.load 24 (.tmp 3)) _ _ _ _ :: _) _ _); refine still ?_)
      refine wpList_load_mid rfl 24 (.tmp 3) rfl X 0 rfl E.vals _ (range_of HX4.out) Try.underlying24 rfl el_info ?_
      go_wp2_with (with_reducible (show wpList _ _ _ (Oper.mk none (.store 24 (.tmp 6) (.tmp 54)) _ _ _ _ :: _) _ _); refine still ?_)
      refine list_put w4 Z 24 el0.vals E.vals HZ4.out rfl E.vals_one el_info rfl (.tmp 6) (.tmp 54) rfl rfl rfl (fun w5 h5 t5 => ?_)
      have H5 := Lib.hid h5
      have HT5 := Lib.hid (HT4.out.trans t5 (fun q hq e => by have := HWS.out; omega))
      clear h5 t5
      go_wp2_with fail
      refine bodyPost_ret (run_cell Try.f35 6 24 (by kernel_rfl) Z _ w5 (range_of H5.out) Try.underlying24 rfl el_info _ rfl) rfl ?_
      exact ⟨by rw [← HE.out]; first | rfl | simp [setV], HT5.out⟩
    · obtain ⟨E, hE⟩ : ∃ E : El, { o with frm := n } = E := ⟨_, rfl⟩
      have hEv : o.vals.toArray.setIfInBounds 5 (.int .i64 n) = E.vals.toArray := by rw [← hE]; rfl
      have hX4 := heap_setCell_same w3 X 5 o.vals.toArray 24 (.int .i64 n) HXH.out
      rw [hEv] at hX4
      have t4 : Turn (fun q => q = X) w3 (w3.setCell ⟨X, 5, none⟩ (.int .i64 n)) := (Turn.refl (fun q => q = X) w3).setCell (p := ⟨X, 5, none⟩) (fun _ => rfl) _
      obtain ⟨w4, hw4⟩ : ∃ w4, w3.setCell ⟨X, 5, none⟩ (.int .i64 n) = w4 := ⟨_, rfl⟩
      rw [hw4] at hX4 t4
      have HX4 := Lib.hid hX4
      have HZ4 := Lib.hid ((t4.block Z (Array.getElem?_eq_some_iff.1 HZH.out).1 (by have := HWS.out; omega)).trans HZH.out)
      have HT4 := Lib.hid (HT.out.trans t4 (fun q hq e => by have := HWS.out; omega))
      have HE := Lib.hid hE
      clear hEv hX4 t4 hE
      go_enter Try.func35, Try.ntmps35
      go_wp2_with (with_reducible (show wpList _ _ _ (Oper.mk (some 6) (.alloc 24) _ _ _ _ :: _) _ _); refine still ?_)
      refine list_exec rfl _ _ (HX0.out _ _ rfl) ?_
      go_wp2_with (with_reducible (show wpList _ _ _ (Oper.mk (some 54) (.load 24 (.tmp 3)) _ _ _ _ :: _) _ _); refine still ?_)
      refine wpList_load_mid rfl 24 (.tmp 3) rfl X 0 rfl E.vals _ (range_of HX4.out) Try.underlying24 rfl el_info ?_
      go_wp2_with (with_reducible (show wpList _ _ _ (Oper.mk none (.store 24 (.tmp 6) (.tmp 54)) _ _ _ _ :: _) _ _); refine still ?_)
      refine list_put w4 Z 24 el0.vals E.vals HZ4.out rfl E.vals_one el_info rfl (.tmp 6) (.tmp 54) rfl rfl rfl (fun w5 h5 t5 => ?_)
      have H5 := Lib.hid h5
      have HT5 := Lib.hid (HT4.out.trans t5 (fun q hq e => by have := HWS.out; omega))
      clear h5 t5
      go_wp2_with fail
      refine bodyPost_ret (run_cell Try.f35 6 24 (by kernel_rfl) Z _ w5 (range_of H5.out) Try.underlying24 rfl el_info _ rfl) rfl ?_
      exact ⟨by rw [← HE.out]; first | rfl | simp [setV], HT5.out⟩
    · obtain ⟨E, hE⟩ : ∃ E : El, { o with to := n } = E := ⟨_, rfl⟩
      have hEv : o.vals.toArray.setIfInBounds 6 (.int .i64 n) = E.vals.toArray := by rw [← hE]; rfl
      have hX4 := heap_setCell_same w3 X 6 o.vals.toArray 24 (.int .i64 n) HXH.out
      rw [hEv] at hX4
      have t4 : Turn (fun q => q = X) w3 (w3.setCell ⟨X, 6, none⟩ (.int .i64 n)) := (Turn.refl (fun q => q = X) w3).setCell (p := ⟨X, 6, none⟩) (fun _ => rfl) _
      obtain ⟨w4, hw4⟩ : ∃ w4, w3.setCell ⟨X, 6, none⟩ (.int .i64 n) = w4 := ⟨_, rfl⟩
      rw [hw4] at hX4 t4
      have HX4 := Lib.hid hX4
      have HZ4 := Lib.hid ((t4.block Z (Array.getElem?_eq_some_iff.1 HZH.out).1 (by have := HWS.out; omega)).trans HZH.out)
      have HT4 := Lib.hid (HT.out.trans t4 (fun q hq e => by have := HWS.out; omega))
      have HE := Lib.hid hE
      clear hEv hX4 t4 hE
      go_enter Try.func35, Try.ntmps35
      go_wp2_with (with_reducible (show wpList _ _ _ (Oper.mk (some 6) (.alloc 24) _ _ _ _ :: _) _ _); refine still ?_)
      refine list_exec rfl _ _ (HX0.out _ _ rfl) ?_
      go_wp2_with (with_reducible (show wpList _ _ _ (Oper.mk (some 54) (.load 24 (.tmp 3)) _ _ _ _ :: _) _ _); refine still ?_)
      refine wpList_load_mid rfl 24 (.tmp 3) rfl X 0 rfl E.vals _ (range_of HX4.out) Try.underlying24 rfl el_info ?_
      go_wp2_with (with_reducible (show wpList _ _ _ (Oper.mk none (.store 24 (.tmp 6) (.tmp 54)) _ _ _ _ :: _) _ _); refine still ?_)
      refine list_put w4 Z 24 el0.vals E.vals HZ4.out rfl E.vals_one el_info rfl (.tmp 6) (.tmp 54) rfl rfl rfl (fun w5 h5 t5 => ?_)
      have H5 := Lib.hid h5
      have HT5 := Lib.hid (HT4.out.trans t5 (fun q hq e => by have := HWS.out; omega))
      clear h5 t5
      go_wp2_with fail
      refine bodyPost_ret (run_cell Try.f35 6 24 (by kernel_rfl) Z _ w5 (range_of H5.out) Try.underlying24 rfl el_info _ rfl) rfl ?_
      exact ⟨by rw [← HE.out]; first | rfl | simp [setV], HT5.out⟩
    · obtain ⟨E, hE⟩ : ∃ E : El, { o with ev := s } = E := ⟨_, rfl⟩
      have hEv : o.vals.toArray.setIfInBounds 7 (.string s) = E.vals.toArray := by rw [← hE]; rfl
      have hX4 := heap_setCell_same w3 X 7 o.vals.toArray 24 (.string s) HXH.out
      rw [hEv] at hX4
      have t4 : Turn (fun q => q = X) w3 (w3.setCell ⟨X, 7, none⟩ (.string s)) := (Turn.refl (fun q => q = X) w3).setCell (p := ⟨X, 7, none⟩) (fun _ => rfl) _
      obtain ⟨w4, hw4⟩ : ∃ w4, w3.setCell ⟨X, 7, none⟩ (.string s) = w4 := ⟨_, rfl⟩
      rw [hw4] at hX4 t4
      have HX4 := Lib.hid hX4
      have HZ4 := Lib.hid ((t4.block Z (Array.getElem?_eq_some_iff.1 HZH.out).1 (by have := HWS.out; omega)).trans HZH.out)
      have HT4 := Lib.hid (HT.out.trans t4 (fun q hq e => by have := HWS.out; omega))
      have HE := Lib.hid hE
      clear hEv hX4 t4 hE
      go_enter Try.func35, Try.ntmps35
      go_wp2_with (with_reducible (show wpList _ _ _ (Oper.mk (some 6) (.alloc 24) _ _ _ _ :: _) _ _); refine still ?_)
      refine list_exec rfl _ _ (HX0.out _ _ rfl) ?_
      go_wp2_with (with_reducible (show wpList _ _ _ (Oper.mk (some 54) (.load 24 (.tmp 3)) _ _ _ _ :: _) _ _); refine still ?_)
      refine wpList_load_mid rfl 24 (.tmp 3) rfl X 0 rfl E.vals _ (range_of HX4.out) Try.underlying24 rfl el_info ?_
      go_wp2_with (with_reducible (show wpList _ _ _ (Oper.mk none (.store 24 (.tmp 6) (.tmp 54)) _ _ _ _ :: _) _ _); refine still ?_)
      refine list_put w4 Z 24 el0.vals E.vals HZ4.out rfl E.vals_one el_info rfl (.tmp 6) (.tmp 54) rfl rfl rfl (fun w5 h5 t5 => ?_)
      have H5 := Lib.hid h5
      have HT5 := Lib.hid (HT4.out.trans t5 (fun q hq e => by have := HWS.out; omega))
      clear h5 t5
      go_wp2_with fail
      refine bodyPost_ret (run_cell Try.f35 6 24 (by kernel_rfl) Z _ w5 (range_of H5.out) Try.underlying24 rfl el_info _ rfl) rfl ?_
      exact ⟨by rw [← HE.out]; first | rfl | simp [setV], HT5.out⟩
    · obtain ⟨E, hE⟩ : ∃ E : El, { o with gd := s } = E := ⟨_, rfl⟩
      have hEv : o.vals.toArray.setIfInBounds 8 (.string s) = E.vals.toArray := by rw [← hE]; rfl
      have hX4 := heap_setCell_same w3 X 8 o.vals.toArray 24 (.string s) HXH.out
      rw [hEv] at hX4
      have t4 : Turn (fun q => q = X) w3 (w3.setCell ⟨X, 8, none⟩ (.string s)) := (Turn.refl (fun q => q = X) w3).setCell (p := ⟨X, 8, none⟩) (fun _ => rfl) _
      obtain ⟨w4, hw4⟩ : ∃ w4, w3.setCell ⟨X, 8, none⟩ (.string s) = w4 := ⟨_, rfl⟩
      rw [hw4] at hX4 t4
      have HX4 := Lib.hid hX4
      have HZ4 := Lib.hid ((t4.block Z (Array.getElem?_eq_some_iff.1 HZH.out).1 (by have := HWS.out; omega)).trans HZH.out)
      have HT4 := Lib.hid (HT.out.trans t4 (fun q hq e => by have := HWS.out; omega))
      have HE := Lib.hid hE
      clear hEv hX4 t4 hE
      go_enter Try.func35, Try.ntmps35
      go_wp2_with (with_reducible (show wpList _ _ _ (Oper.mk (some 6) (.alloc 24) _ _ _ _ :: _) _ _); refine still ?_)
      refine list_exec rfl _ _ (HX0.out _ _ rfl) ?_
      go_wp2_with (with_reducible (show wpList _ _ _ (Oper.mk (some 54) (.load 24 (.tmp 3)) _ _ _ _ :: _) _ _); refine still ?_)
      refine wpList_load_mid rfl 24 (.tmp 3) rfl X 0 rfl E.vals _ (range_of HX4.out) Try.underlying24 rfl el_info ?_
      go_wp2_with (with_reducible (show wpList _ _ _ (Oper.mk none (.store 24 (.tmp 6) (.tmp 54)) _ _ _ _ :: _) _ _); refine still ?_)
      refine list_put w4 Z 24 el0.vals E.vals HZ4.out rfl E.vals_one el_info rfl (.tmp 6) (.tmp 54) rfl rfl rfl (fun w5 h5 t5 => ?_)
      have H5 := Lib.hid h5
      have HT5 := Lib.hid (HT4.out.trans t5 (fun q hq e => by have := HWS.out; omega))
      clear h5 t5
      go_wp2_with fail
      refine bodyPost_ret (run_cell Try.f35 6 24 (by kernel_rfl) Z _ w5 (range_of H5.out) Try.underlying24 rfl el_info _ rfl) rfl ?_
      exact ⟨by rw [← HE.out]; first | rfl | simp [setV], HT5.out⟩
    · obtain ⟨E, hE⟩ : ∃ E : El, { o with ac := s } = E := ⟨_, rfl⟩
      have hEv : o.vals.toArray.setIfInBounds 9 (.string s) = E.vals.toArray := by rw [← hE]; rfl
      have hX4 := heap_setCell_same w3 X 9 o.vals.toArray 24 (.string s) HXH.out
      rw [hEv] at hX4
      have t4 : Turn (fun q => q = X) w3 (w3.setCell ⟨X, 9, none⟩ (.string s)) := (Turn.refl (fun q => q = X) w3).setCell (p := ⟨X, 9, none⟩) (fun _ => rfl) _
      obtain ⟨w4, hw4⟩ : ∃ w4, w3.setCell ⟨X, 9, none⟩ (.string s) = w4 := ⟨_, rfl⟩
      rw [hw4] at hX4 t4
      have HX4 := Lib.hid hX4
      have HZ4 := Lib.hid ((t4.block Z (Array.getElem?_eq_some_iff.1 HZH.out).1 (by have := HWS.out; omega)).trans HZH.out)
      have HT4 := Lib.hid (HT.out.trans t4 (fun q hq e => by have := HWS.out; omega))
      have HE := Lib.hid hE
      clear hEv hX4 t4 hE
      go_enter Try.func35, Try.ntmps35
      go_wp2_with (with_reducible (show wpList _ _ _ (Oper.mk (some 6) (.alloc 24) _ _ _ _ :: _) _ _); refine still ?_)
      refine list_exec rfl _ _ (HX0.out _ _ rfl) ?_
      go_wp2_with (with_reducible (show wpList _ _ _ (Oper.mk (some 54) (.load 24 (.tmp 3)) _ _ _ _ :: _) _ _); refine still ?_)
      refine wpList_load_mid rfl 24 (.tmp 3) rfl X 0 rfl E.vals _ (range_of HX4.out) Try.underlying24 rfl el_info ?_
      go_wp2_with (with_reducible (show wpList _ _ _ (Oper.mk none (.store 24 (.tmp 6) (.tmp 54)) _ _ _ _ :: _) _ _); refine still ?_)
      refine list_put w4 Z 24 el0.vals E.vals HZ4.out rfl E.vals_one el_info rfl (.tmp 6) (.tmp 54) rfl rfl rfl (fun w5 h5 t5 => ?_)
      have H5 := Lib.hid h5
      have HT5 := Lib.hid (HT4.out.trans t5 (fun q hq e => by have := HWS.out; omega))
      clear h5 t5
      go_wp2_with fail
      refine bodyPost_ret (run_cell Try.f35 6 24 (by kernel_rfl) Z _ w5 (range_of H5.out) Try.underlying24 rfl el_info _ rfl) rfl ?_
      exact ⟨by rw [← HE.out]; first | rfl | simp [setV], HT5.out⟩
  · have hg : setV o f n s = o := by
      unfold setV
      rw [if_neg (by omega), if_neg (by omega), if_neg (by omega), if_neg (by omega), if_neg (by omega), if_neg (by omega), if_neg (by omega), if_neg (by omega), if_neg (by omega)]
    have HG := Lib.hid hg
    have d0 : (f == 0) = false := by simp; omega
    have d1 : (f == 1) = false := by simp; omega
    have d2 : (f == 2) = false := by simp; omega
    have d3 : (f == 3) = false := by simp; omega
    have d4 : (f == 4) = false := by simp; omega
    have d5 : (f == 5) = false := by simp; omega
    have d6 : (f == 6) = false := by simp; omega
    have d7 : (f == 7) = false := by simp; omega
    have d8 : (f == 8) = false := by simp; omega
    clear hg
    have HZ4 := HZH
    go_enter Try.func35, Try.ntmps35
    go_wp2_with (with_reducible (show wpList _ _ _ (Oper.mk (some 6) (.alloc 24) _ _ _ _ :: _) _ _); refine still ?_)
    refine list_exec rfl _ _ (HX0.out _ _ rfl) ?_
    go_wp2_with (with_reducible (show wpList _ _ _ (Oper.mk (some 54) (.load 24 (.tmp 3)) _ _ _ _ :: _) _ _); refine still ?_)
    refine wpList_load_mid rfl 24 (.tmp 3) rfl X 0 rfl o.vals _ (range_of HXH.out) Try.underlying24 rfl el_info ?_
    go_wp2_with (with_reducible (show wpList _ _ _ (Oper.mk none (.store 24 (.tmp 6) (.tmp 54)) _ _ _ _ :: _) _ _); refine still ?_)
    refine list_put w3 Z 24 el0.vals o.vals HZ4.out rfl o.vals_one el_info rfl (.tmp 6) (.tmp 54) rfl rfl rfl (fun w5 h5 t5 => ?_)
    have H5 := Lib.hid h5
    have HT5 := Lib.hid (HT.out.trans t5 (fun q hq e => by have := HWS.out; omega))
    clear h5 t5
    go_wp2_with fail
    refine bodyPost_ret (run_cell Try.f35 6 24 (by kernel_rfl) Z _ w5 (range_of H5.out) Try.underlying24 rfl el_info _ rfl) rfl ?_
    exact ⟨by rw [HG.out], HT5.out⟩

end Go.Proofs.Ytbokdgcdkmnldaa
