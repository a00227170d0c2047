/- Own texts, packed: Wi, Ft, Wg, Nn, Ep, Df1, Ed, Ea, Eb, Ec, Ef, Hs. No statement is proved here. -/
import Derived.Test.YtkciaafkhpjnaaaQ07
import Derived.Laws.BitsAllLaws
import Derived.Test.YtkciaafkhpjnaaaQ04
import Derived.Deep.RegionHeld3
namespace Go.Proofs.Ytkciaafkhpjnaaa
set_option maxRecDepth 100000
open Go.RowKit
set_option linter.unusedVariables false
set_option linter.unusedSimpArgs false


def WithPost (w : World) (o : El) (e : Ending) (w' : World) : Prop := e = .returned (.agg o.vals.toArray) ∧ Turn (fun _ => False) w w'
set_option maxHeartbeats 4000000 in
theorem with_any (w : World) (o : El) (f : Int) (n : Int) (s : ByteArray) : Calls Try.prog 55 #[.agg o.vals.toArray, .int .i64 f, .agg (vl n s).toArray] w (WithPost w (setV o f n s)) := by
  have hbx := box_alloc w 38 o.vals
  obtain ⟨X, hX⟩ : ∃ X, w.heap.size = X := ⟨_, rfl⟩
  obtain ⟨w1, hw1⟩ : ∃ w1, w.alloc (.cells o.vals.toArray 38) = w1 := ⟨_, rfl⟩
  rw [hw1] at hbx
  have hby := box_alloc w1 51 (vl n s)
  obtain ⟨Y, hY⟩ : ∃ Y, w1.heap.size = Y := ⟨_, rfl⟩
  obtain ⟨w2, hw2⟩ : ∃ w2, w1.alloc (.cells (vl n s).toArray 51) = w2 := ⟨_, rfl⟩
  rw [hw2] at hby
  have hbz := box_alloc w2 38 el0.vals
  obtain ⟨Z, hZ⟩ : ∃ Z, w2.heap.size = Z := ⟨_, rfl⟩
  obtain ⟨w3, hw3⟩ : ∃ w3, w2.alloc (.cells el0.vals.toArray 38) = w3 := ⟨_, rfl⟩
  rw [hw3] at hbz
  have hx0 : ∀ ev op, op.op = .alloc 38 → (execOp ev op).run Try.prog w2 = .ok (.value (.pointer (some ⟨Z, 0, none⟩))) w3 := fun ev op ho => by rw [← hw3, ← hZ]; exact exec_zero24 ev op ho _
  have hzh := hbz.heap
  rw [hZ] at hzh
  have hYX : Y = X + 1 := by rw [← hY, hbx.size, hX]
  have hZY : Z = Y + 1 := by rw [← hZ, hby.size, hY]
  have hxh : w3.heap[X]? = some (.cells o.vals.toArray 38 (0, 0)) := by
    rw [hbz.turn.block X (by omega) id, hby.turn.block X (by omega) id, ← hX]; exact hbx.heap
  have hyh : w3.heap[Y]? = some (.cells (vl n s).toArray 51 (0, 0)) := by
    rw [hbz.turn.block Y (by omega) id, ← hY]; exact hby.heap
  have k0 : w3.cell? ⟨Y, 0, none⟩ = some (.int .i64 n) := by rw [cell_of_row w3 Y 0 _ 51 (0, 0) hyh]; rfl
  have k1 : w3.cell? ⟨Y, 1, none⟩ = some (.string s) := by rw [cell_of_row w3 Y 1 _ 51 (0, 0) hyh]; rfl
  have HT := Lib.hid ((hbx.turn.trans hby.turn (fun _ _ => id)).trans hbz.turn (fun _ _ => id))
  have HXH := Lib.hid hxh
  have HZH := Lib.hid hzh
  have HX0 := Lib.hid hx0
  have HWS := Lib.hid (show w.heap.size < Y ∧ Y < Z ∧ w.heap.size = X by omega)
  have c0 : w3.cell? ⟨X, 0, none⟩ = some (.int .i64 o.id) := by rw [cell_of_row w3 X 0 _ 38 (0, 0) hxh]; rfl
  have g0 : w3.frozen? ⟨X, 0, none⟩ = false := frozen_of_row w3 X 0 _ 38 hxh
  have c1 : w3.cell? ⟨X, 1, none⟩ = some (.int .u8 o.kind) := by rw [cell_of_row w3 X 1 _ 38 (0, 0) hxh]; rfl
  have g1 : w3.frozen? ⟨X, 1, none⟩ = false := frozen_of_row w3 X 1 _ 38 hxh
  have c2 : w3.cell? ⟨X, 2, none⟩ = some (.int .i64 o.par) := by rw [cell_of_row w3 X 2 _ 38 (0, 0) hxh]; rfl
  have g2 : w3.frozen? ⟨X, 2, none⟩ = false := frozen_of_row w3 X 2 _ 38 hxh
  have c3 : w3.cell? ⟨X, 3, none⟩ = some (.int .i64 o.ord) := by rw [cell_of_row w3 X 3 _ 38 (0, 0) hxh]; rfl
  have g3 : w3.frozen? ⟨X, 3, none⟩ = false := frozen_of_row w3 X 3 _ 38 hxh
  have c4 : w3.cell? ⟨X, 4, none⟩ = some (.string o.name) := by rw [cell_of_row w3 X 4 _ 38 (0, 0) hxh]; rfl
  have g4 : w3.frozen? ⟨X, 4, none⟩ = false := frozen_of_row w3 X 4 _ 38 hxh
  have c5 : w3.cell? ⟨X, 5, none⟩ = some (.int .i64 o.frm) := by rw [cell_of_row w3 X 5 _ 38 (0, 0) hxh]; rfl
  have g5 : w3.frozen? ⟨X, 5, none⟩ = false := frozen_of_row w3 X 5 _ 38 hxh
  have c6 : w3.cell? ⟨X, 6, none⟩ = some (.int .i64 o.to) := by rw [cell_of_row w3 X 6 _ 38 (0, 0) hxh]; rfl
  have g6 : w3.frozen? ⟨X, 6, none⟩ = false := frozen_of_row w3 X 6 _ 38 hxh
  have c7 : w3.cell? ⟨X, 7, none⟩ = some (.string o.ev) := by rw [cell_of_row w3 X 7 _ 38 (0, 0) hxh]; rfl
  have g7 : w3.frozen? ⟨X, 7, none⟩ = false := frozen_of_row w3 X 7 _ 38 hxh
  have c8 : w3.cell? ⟨X, 8, none⟩ = some (.string o.gd) := by rw [cell_of_row w3 X 8 _ 38 (0, 0) hxh]; rfl
  have g8 : w3.frozen? ⟨X, 8, none⟩ = false := frozen_of_row w3 X 8 _ 38 hxh
  have c9 : w3.cell? ⟨X, 9, none⟩ = some (.string o.ac) := by rw [cell_of_row w3 X 9 _ 38 (0, 0) hxh]; rfl
  have g9 : w3.frozen? ⟨X, 9, none⟩ = false := frozen_of_row w3 X 9 _ 38 hxh
  clear hbx hby hbz hx0 hyh hxh hzh hYX hZY hZ hw3
  by_cases hf : 0 ≤ f ∧ f ≤ 8
  · have hcs : f = 0 ∨ f = 1 ∨ f = 2 ∨ f = 3 ∨ f = 4 ∨ f = 5 ∨ f = 6 ∨ f = 7 ∨ f = 8 := by omega
    clear hf
    rcases hcs with rfl | rfl | rfl | rfl | rfl | rfl | rfl | rfl | rfl
    · obtain ⟨E, hE⟩ : ∃ E : El, { o with kind := n % 256 } = E := ⟨_, rfl⟩
      have hEv : o.vals.toArray.setIfInBounds 1 (.int .u8 (n % 256)) = E.vals.toArray := by rw [← hE]; rfl
      have hX4 := heap_setCell_same w3 X 1 o.vals.toArray 38 (.int .u8 (n % 256)) HXH.out
      rw [hEv] at hX4
      have t4 : Turn (fun q => q = X) w3 (w3.setCell ⟨X, 1, none⟩ (.int .u8 (n % 256))) := (Turn.refl (fun q => q = X) w3).setCell (p := ⟨X, 1, none⟩) (fun _ => rfl) _
      obtain ⟨w4, hw4⟩ : ∃ w4, w3.setCell ⟨X, 1, none⟩ (.int .u8 (n % 256)) = w4 := ⟨_, rfl⟩
      rw [hw4] at hX4 t4
      have HX4 := Lib.hid hX4
      have HZ4 := Lib.hid ((t4.block Z (Array.getElem?_eq_some_iff.1 HZH.out).1 (by have := HWS.out; omega)).trans HZH.out)
      have HT4 := Lib.hid (HT.out.trans t4 (fun q hq e => by have := HWS.out; omega))
      have HE := Lib.hid hE
      clear hEv hX4 t4 hE
      go_enter Try.func55, Try.ntmps55
      go_wp2_with (with_reducible (show wpList _ _ _ (Oper.mk (some 6) (.alloc 38) _ _ _ _ :: _) _ _); refine still ?_)
      refine list_exec rfl _ _ (HX0.out _ _ rfl) ?_
      go_wp2_with (with_reducible (show wpList _ _ _ (Oper.mk (some 54) (.load 38 (.tmp 3)) _ _ _ _ :: _) _ _); refine still ?_)
      refine wpList_load_mid rfl 38 (.tmp 3) rfl X 0 rfl E.vals _ (range_of HX4.out) Try.underlying38 rfl el_info ?_
      go_wp2_with (with_reducible (show wpList _ _ _ (Oper.mk none (.store 38 (.tmp 6) (.tmp 54)) _ _ _ _ :: _) _ _); refine still ?_)
      refine list_put w4 Z 38 el0.vals E.vals HZ4.out rfl E.vals_one el_info rfl (.tmp 6) (.tmp 54) rfl rfl rfl (fun w5 h5 t5 => ?_)
      have H5 := Lib.hid h5
      have HT5 := Lib.hid (HT4.out.trans t5 (fun q hq e => by have := HWS.out; omega))
      clear h5 t5
      go_wp2_with fail
      refine bodyPost_ret (run_cell Try.f55 6 38 (by kernel_rfl) Z _ w5 (range_of H5.out) Try.underlying38 rfl el_info _ rfl) rfl ?_
      exact ⟨by rw [← HE.out]; first | rfl | simp [setV], HT5.out⟩
    · obtain ⟨E, hE⟩ : ∃ E : El, { o with par := n } = E := ⟨_, rfl⟩
      have hEv : o.vals.toArray.setIfInBounds 2 (.int .i64 n) = E.vals.toArray := by rw [← hE]; rfl
      have hX4 := heap_setCell_same w3 X 2 o.vals.toArray 38 (.int .i64 n) HXH.out
      rw [hEv] at hX4
      have t4 : Turn (fun q => q = X) w3 (w3.setCell ⟨X, 2, none⟩ (.int .i64 n)) := (Turn.refl (fun q => q = X) w3).setCell (p := ⟨X, 2, none⟩) (fun _ => rfl) _
      obtain ⟨w4, hw4⟩ : ∃ w4, w3.setCell ⟨X, 2, none⟩ (.int .i64 n) = w4 := ⟨_, rfl⟩
      rw [hw4] at hX4 t4
      have HX4 := Lib.hid hX4
      have HZ4 := Lib.hid ((t4.block Z (Array.getElem?_eq_some_iff.1 HZH.out).1 (by have := HWS.out; omega)).trans HZH.out)
      have HT4 := Lib.hid (HT.out.trans t4 (fun q hq e => by have := HWS.out; omega))
      have HE := Lib.hid hE
      clear hEv hX4 t4 hE
      go_enter Try.func55, Try.ntmps55
      go_wp2_with (with_reducible (show wpList _ _ _ (Oper.mk (some 6) (.alloc 38) _ _ _ _ :: _) _ _); refine still ?_)
      refine list_exec rfl _ _ (HX0.out _ _ rfl) ?_
      go_wp2_with (with_reducible (show wpList _ _ _ (Oper.mk (some 54) (.load 38 (.tmp 3)) _ _ _ _ :: _) _ _); refine still ?_)
      refine wpList_load_mid rfl 38 (.tmp 3) rfl X 0 rfl E.vals _ (range_of HX4.out) Try.underlying38 rfl el_info ?_
      go_wp2_with (with_reducible (show wpList _ _ _ (Oper.mk none (.store 38 (.tmp 6) (.tmp 54)) _ _ _ _ :: _) _ _); refine still ?_)
      refine list_put w4 Z 38 el0.vals E.vals HZ4.out rfl E.vals_one el_info rfl (.tmp 6) (.tmp 54) rfl rfl rfl (fun w5 h5 t5 => ?_)
      have H5 := Lib.hid h5
      have HT5 := Lib.hid (HT4.out.trans t5 (fun q hq e => by have := HWS.out; omega))
      clear h5 t5
      go_wp2_with fail
      refine bodyPost_ret (run_cell Try.f55 6 38 (by kernel_rfl) Z _ w5 (range_of H5.out) Try.underlying38 rfl el_info _ rfl) rfl ?_
      exact ⟨by rw [← HE.out]; first | rfl | simp [setV], HT5.out⟩
    · obtain ⟨E, hE⟩ : ∃ E : El, { o with ord := n } = E := ⟨_, rfl⟩
      have hEv : o.vals.toArray.setIfInBounds 3 (.int .i64 n) = E.vals.toArray := by rw [← hE]; rfl
      have hX4 := heap_setCell_same w3 X 3 o.vals.toArray 38 (.int .i64 n) HXH.out
      rw [hEv] at hX4
      have t4 : Turn (fun q => q = X) w3 (w3.setCell ⟨X, 3, none⟩ (.int .i64 n)) := (Turn.refl (fun q => q = X) w3).setCell (p := ⟨X, 3, none⟩) (fun _ => rfl) _
      obtain ⟨w4, hw4⟩ : ∃ w4, w3.setCell ⟨X, 3, none⟩ (.int .i64 n) = w4 := ⟨_, rfl⟩
      rw [hw4] at hX4 t4
      have HX4 := Lib.hid hX4
      have HZ4 := Lib.hid ((t4.block Z (Array.getElem?_eq_some_iff.1 HZH.out).1 (by have := HWS.out; omega)).trans HZH.out)
      have HT4 := Lib.hid (HT.out.trans t4 (fun q hq e => by have := HWS.out; omega))
      have HE := Lib.hid hE
      clear hEv hX4 t4 hE
      go_enter Try.func55, Try.ntmps55
      go_wp2_with (with_reducible (show wpList _ _ _ (Oper.mk (some 6) (.alloc 38) _ _ _ _ :: _) _ _); refine still ?_)
      refine list_exec rfl _ _ (HX0.out _ _ rfl) ?_
      go_wp2_with (with_reducible (show wpList _ _ _ (Oper.mk (some 54) (.load 38 (.tmp 3)) _ _ _ _ :: _) _ _); refine still ?_)
      refine wpList_load_mid rfl 38 (.tmp 3) rfl X 0 rfl E.vals _ (range_of HX4.out) Try.underlying38 rfl el_info ?_
      go_wp2_with (with_reducible (show wpList _ _ _ (Oper.mk none (.store 38 (.tmp 6) (.tmp 54)) _ _ _ _ :: _) _ _); refine still ?_)
      refine list_put w4 Z 38 el0.vals E.vals HZ4.out rfl E.vals_one el_info rfl (.tmp 6) (.tmp 54) rfl rfl rfl (fun w5 h5 t5 => ?_)
      have H5 := Lib.hid h5
      have HT5 := Lib.hid (HT4.out.trans t5 (fun q hq e => by have := HWS.out; omega))
      clear h5 t5
      go_wp2_with fail
      refine bodyPost_ret (run_cell Try.f55 6 38 (by kernel_rfl) Z _ w5 (range_of H5.out) Try.underlying38 rfl el_info _ rfl) rfl ?_
      exact ⟨by rw [← HE.out]; first | rfl | simp [setV], HT5.out⟩
    · obtain ⟨E, hE⟩ : ∃ E : El, { o with name := s } = E := ⟨_, rfl⟩
      have hEv : o.vals.toArray.setIfInBounds 4 (.string s) = E.vals.toArray := by rw [← hE]; rfl
      have hX4 := heap_setCell_same w3 X 4 o.vals.toArray 38 (.string s) HXH.out
      rw [hEv] at hX4
      have t4 : Turn (fun q => q = X) w3 (w3.setCell ⟨X, 4, none⟩ (.string s)) := (Turn.refl (fun q => q = X) w3).setCell (p := ⟨X, 4, none⟩) (fun _ => rfl) _
      obtain ⟨w4, hw4⟩ : ∃ w4, w3.setCell ⟨X, 4, none⟩ (.string s) = w4 := ⟨_, rfl⟩
      rw [hw4] at hX4 t4
      have HX4 := Lib.hid hX4
      have HZ4 := Lib.hid ((t4.block Z (Array.getElem?_eq_some_iff.1 HZH.out).1 (by have := HWS.out; omega)).trans HZH.out)
      have HT4 := Lib.hid (HT.out.trans t4 (fun q hq e => by have := HWS.out; omega))
      have HE := Lib.hid hE
      clear hEv hX4 t4 hE
      go_enter Try.func55, Try.ntmps55
      go_wp2_with (with_reducible (show wpList _ _ _ (Oper.mk (some 6) (.alloc 38) _ _ _ _ :: _) _ _); refine still ?_)
      refine list_exec rfl _ _ (HX0.out _ _ rfl) ?_
      go_wp2_with (with_reducible (show wpList _ _ _ (Oper.mk (some 54) (.load 38 (.tmp 3)) _ _ _ _ :: _) _ _); refine still ?_)
      refine wpList_load_mid rfl 38 (.tmp 3) rfl X 0 rfl E.vals _ (range_of HX4.out) Try.underlying38 rfl el_info ?_
      go_wp2_with (with_reducible (show wpList _ _ _ (Oper.mk none (.store 38 (.tmp 6) (.tmp 54)) _ _ _ _ :: _) _ _); refine still ?_)
      refine list_put w4 Z 38 el0.vals E.vals HZ4.out rfl E.vals_one el_info rfl (.tmp 6) (.tmp 54) rfl rfl rfl (fun w5 h5 t5 => ?_)
      have H5 := Lib.hid h5
      have HT5 := Lib.hid (HT4.out.trans t5 (fun q hq e => by have := HWS.out; omega))
      clear h5 t5
      go_wp2_with fail
      refine bodyPost_ret (run_cell Try.f55 6 38 (by kernel_rfl) Z _ w5 (range_of H5.out) Try.underlying38 rfl el_info _ rfl) rfl ?_
      exact ⟨by rw [← HE.out]; first | rfl | simp [setV], HT5.out⟩
    · obtain ⟨E, hE⟩ : ∃ E : El, { o with frm := n } = E := ⟨_, rfl⟩
      have hEv : o.vals.toArray.setIfInBounds 5 (.int .i64 n) = E.vals.toArray := by rw [← hE]; rfl
      have hX4 := heap_setCell_same w3 X 5 o.vals.toArray 38 (.int .i64 n) HXH.out
      rw [hEv] at hX4
      have t4 : Turn (fun q => q = X) w3 (w3.setCell ⟨X, 5, none⟩ (.int .i64 n)) := (Turn.refl (fun q => q = X) w3).setCell (p := ⟨X, 5, none⟩) (fun _ => rfl) _
      obtain ⟨w4, hw4⟩ : ∃ w4, w3.setCell ⟨X, 5, none⟩ (.int .i64 n) = w4 := ⟨_, rfl⟩
      rw [hw4] at hX4 t4
      have HX4 := Lib.hid hX4
      have HZ4 := Lib.hid ((t4.block Z (Array.getElem?_eq_some_iff.1 HZH.out).1 (by have := HWS.out; omega)).trans HZH.out)
      have HT4 := Lib.hid (HT.out.trans t4 (fun q hq e => by have := HWS.out; omega))
      have HE := Lib.hid hE
      clear hEv hX4 t4 hE
      go_enter Try.func55, Try.ntmps55
      go_wp2_with (with_reducible (show wpList _ _ _ (Oper.mk (some 6) (.alloc 38) _ _ _ _ :: _) _ _); refine still ?_)
      refine list_exec rfl _ _ (HX0.out _ _ rfl) ?_
      go_wp2_with (with_reducible (show wpList _ _ _ (Oper.mk (some 54) (.load 38 (.tmp 3)) _ _ _ _ :: _) _ _); refine still ?_)
      refine wpList_load_mid rfl 38 (.tmp 3) rfl X 0 rfl E.vals _ (range_of HX4.out) Try.underlying38 rfl el_info ?_
      go_wp2_with (with_reducible (show wpList _ _ _ (Oper.mk none (.store 38 (.tmp 6) (.tmp 54)) _ _ _ _ :: _) _ _); refine still ?_)
      refine list_put w4 Z 38 el0.vals E.vals HZ4.out rfl E.vals_one el_info rfl (.tmp 6) (.tmp 54) rfl rfl rfl (fun w5 h5 t5 => ?_)
      have H5 := Lib.hid h5
      have HT5 := Lib.hid (HT4.out.trans t5 (fun q hq e => by have := HWS.out; omega))
      clear h5 t5
      go_wp2_with fail
      refine bodyPost_ret (run_cell Try.f55 6 38 (by kernel_rfl) Z _ w5 (range_of H5.out) Try.underlying38 rfl el_info _ rfl) rfl ?_
      exact ⟨by rw [← HE.out]; first | rfl | simp [setV], HT5.out⟩
    · obtain ⟨E, hE⟩ : ∃ E : El, { o with to := n } = E := ⟨_, rfl⟩
      have hEv : o.vals.toArray.setIfInBounds 6 (.int .i64 n) = E.vals.toArray := by rw [← hE]; rfl
      have hX4 := heap_setCell_same w3 X 6 o.vals.toArray 38 (.int .i64 n) HXH.out
      rw [hEv] at hX4
      have t4 : Turn (fun q => q = X) w3 (w3.setCell ⟨X, 6, none⟩ (.int .i64 n)) := (Turn.refl (fun q => q = X) w3).setCell (p := ⟨X, 6, none⟩) (fun _ => rfl) _
      obtain ⟨w4, hw4⟩ : ∃ w4, w3.setCell ⟨X, 6, none⟩ (.int .i64 n) = w4 := ⟨_, rfl⟩
      rw [hw4] at hX4 t4
      have HX4 := Lib.hid hX4
      have HZ4 := Lib.hid ((t4.block Z (Array.getElem?_eq_some_iff.1 HZH.out).1 (by have := HWS.out; omega)).trans HZH.out)
      have HT4 := Lib.hid (HT.out.trans t4 (fun q hq e => by have := HWS.out; omega))
      have HE := Lib.hid hE
      clear hEv hX4 t4 hE
      go_enter Try.func55, Try.ntmps55
      go_wp2_with (with_reducible (show wpList _ _ _ (Oper.mk (some 6) (.alloc 38) _ _ _ _ :: _) _ _); refine still ?_)
      refine list_exec rfl _ _ (HX0.out _ _ rfl) ?_
      go_wp2_with (with_reducible (show wpList _ _ _ (Oper.mk (some 54) (.load 38 (.tmp 3)) _ _ _ _ :: _) _ _); refine still ?_)
      refine wpList_load_mid rfl 38 (.tmp 3) rfl X 0 rfl E.vals _ (range_of HX4.out) Try.underlying38 rfl el_info ?_
      go_wp2_with (with_reducible (show wpList _ _ _ (Oper.mk none (.store 38 (.tmp 6) (.tmp 54)) _ _ _ _ :: _) _ _); refine still ?_)
      refine list_put w4 Z 38 el0.vals E.vals HZ4.out rfl E.vals_one el_info rfl (.tmp 6) (.tmp 54) rfl rfl rfl (fun w5 h5 t5 => ?_)
      have H5 := Lib.hid h5
      have HT5 := Lib.hid (HT4.out.trans t5 (fun q hq e => by have := HWS.out; omega))
      clear h5 t5
      go_wp2_with fail
      refine bodyPost_ret (run_cell Try.f55 6 38 (by kernel_rfl) Z _ w5 (range_of H5.out) Try.underlying38 rfl el_info _ rfl) rfl ?_
      exact ⟨by rw [← HE.out]; first | rfl | simp [setV], HT5.out⟩
    · obtain ⟨E, hE⟩ : ∃ E : El, { o with ev := s } = E := ⟨_, rfl⟩
      have hEv : o.vals.toArray.setIfInBounds 7 (.string s) = E.vals.toArray := by rw [← hE]; rfl
      have hX4 := heap_setCell_same w3 X 7 o.vals.toArray 38 (.string s) HXH.out
      rw [hEv] at hX4
      have t4 : Turn (fun q => q = X) w3 (w3.setCell ⟨X, 7, none⟩ (.string s)) := (Turn.refl (fun q => q = X) w3).setCell (p := ⟨X, 7, none⟩) (fun _ => rfl) _
      obtain ⟨w4, hw4⟩ : ∃ w4, w3.setCell ⟨X, 7, none⟩ (.string s) = w4 := ⟨_, rfl⟩
      rw [hw4] at hX4 t4
      have HX4 := Lib.hid hX4
      have HZ4 := Lib.hid ((t4.block Z (Array.getElem?_eq_some_iff.1 HZH.out).1 (by have := HWS.out; omega)).trans HZH.out)
      have HT4 := Lib.hid (HT.out.trans t4 (fun q hq e => by have := HWS.out; omega))
      have HE := Lib.hid hE
      clear hEv hX4 t4 hE
      go_enter Try.func55, Try.ntmps55
      go_wp2_with (with_reducible (show wpList _ _ _ (Oper.mk (some 6) (.alloc 38) _ _ _ _ :: _) _ _); refine still ?_)
      refine list_exec rfl _ _ (HX0.out _ _ rfl) ?_
      go_wp2_with (with_reducible (show wpList _ _ _ (Oper.mk (some 54) (.load 38 (.tmp 3)) _ _ _ _ :: _) _ _); refine still ?_)
      refine wpList_load_mid rfl 38 (.tmp 3) rfl X 0 rfl E.vals _ (range_of HX4.out) Try.underlying38 rfl el_info ?_
      go_wp2_with (with_reducible (show wpList _ _ _ (Oper.mk none (.store 38 (.tmp 6) (.tmp 54)) _ _ _ _ :: _) _ _); refine still ?_)
      refine list_put w4 Z 38 el0.vals E.vals HZ4.out rfl E.vals_one el_info rfl (.tmp 6) (.tmp 54) rfl rfl rfl (fun w5 h5 t5 => ?_)
      have H5 := Lib.hid h5
      have HT5 := Lib.hid (HT4.out.trans t5 (fun q hq e => by have := HWS.out; omega))
      clear h5 t5
      go_wp2_with fail
      refine bodyPost_ret (run_cell Try.f55 6 38 (by kernel_rfl) Z _ w5 (range_of H5.out) Try.underlying38 rfl el_info _ rfl) rfl ?_
      exact ⟨by rw [← HE.out]; first | rfl | simp [setV], HT5.out⟩
    · obtain ⟨E, hE⟩ : ∃ E : El, { o with gd := s } = E := ⟨_, rfl⟩
      have hEv : o.vals.toArray.setIfInBounds 8 (.string s) = E.vals.toArray := by rw [← hE]; rfl
      have hX4 := heap_setCell_same w3 X 8 o.vals.toArray 38 (.string s) HXH.out
      rw [hEv] at hX4
      have t4 : Turn (fun q => q = X) w3 (w3.setCell ⟨X, 8, none⟩ (.string s)) := (Turn.refl (fun q => q = X) w3).setCell (p := ⟨X, 8, none⟩) (fun _ => rfl) _
      obtain ⟨w4, hw4⟩ : ∃ w4, w3.setCell ⟨X, 8, none⟩ (.string s) = w4 := ⟨_, rfl⟩
      rw [hw4] at hX4 t4
      have HX4 := Lib.hid hX4
      have HZ4 := Lib.hid ((t4.block Z (Array.getElem?_eq_some_iff.1 HZH.out).1 (by have := HWS.out; omega)).trans HZH.out)
      have HT4 := Lib.hid (HT.out.trans t4 (fun q hq e => by have := HWS.out; omega))
      have HE := Lib.hid hE
      clear hEv hX4 t4 hE
      go_enter Try.func55, Try.ntmps55
      go_wp2_with (with_reducible (show wpList _ _ _ (Oper.mk (some 6) (.alloc 38) _ _ _ _ :: _) _ _); refine still ?_)
      refine list_exec rfl _ _ (HX0.out _ _ rfl) ?_
      go_wp2_with (with_reducible (show wpList _ _ _ (Oper.mk (some 54) (.load 38 (.tmp 3)) _ _ _ _ :: _) _ _); refine still ?_)
      refine wpList_load_mid rfl 38 (.tmp 3) rfl X 0 rfl E.vals _ (range_of HX4.out) Try.underlying38 rfl el_info ?_
      go_wp2_with (with_reducible (show wpList _ _ _ (Oper.mk none (.store 38 (.tmp 6) (.tmp 54)) _ _ _ _ :: _) _ _); refine still ?_)
      refine list_put w4 Z 38 el0.vals E.vals HZ4.out rfl E.vals_one el_info rfl (.tmp 6) (.tmp 54) rfl rfl rfl (fun w5 h5 t5 => ?_)
      have H5 := Lib.hid h5
      have HT5 := Lib.hid (HT4.out.trans t5 (fun q hq e => by have := HWS.out; omega))
      clear h5 t5
      go_wp2_with fail
      refine bodyPost_ret (run_cell Try.f55 6 38 (by kernel_rfl) Z _ w5 (range_of H5.out) Try.underlying38 rfl el_info _ rfl) rfl ?_
      exact ⟨by rw [← HE.out]; first | rfl | simp [setV], HT5.out⟩
    · obtain ⟨E, hE⟩ : ∃ E : El, { o with ac := s } = E := ⟨_, rfl⟩
      have hEv : o.vals.toArray.setIfInBounds 9 (.string s) = E.vals.toArray := by rw [← hE]; rfl
      have hX4 := heap_setCell_same w3 X 9 o.vals.toArray 38 (.string s) HXH.out
      rw [hEv] at hX4
      have t4 : Turn (fun q => q = X) w3 (w3.setCell ⟨X, 9, none⟩ (.string s)) := (Turn.refl (fun q => q = X) w3).setCell (p := ⟨X, 9, none⟩) (fun _ => rfl) _
      obtain ⟨w4, hw4⟩ : ∃ w4, w3.setCell ⟨X, 9, none⟩ (.string s) = w4 := ⟨_, rfl⟩
      rw [hw4] at hX4 t4
      have HX4 := Lib.hid hX4
      have HZ4 := Lib.hid ((t4.block Z (Array.getElem?_eq_some_iff.1 HZH.out).1 (by have := HWS.out; omega)).trans HZH.out)
      have HT4 := Lib.hid (HT.out.trans t4 (fun q hq e => by have := HWS.out; omega))
      have HE := Lib.hid hE
      clear hEv hX4 t4 hE
      go_enter Try.func55, Try.ntmps55
      go_wp2_with (with_reducible (show wpList _ _ _ (Oper.mk (some 6) (.alloc 38) _ _ _ _ :: _) _ _); refine still ?_)
      refine list_exec rfl _ _ (HX0.out _ _ rfl) ?_
      go_wp2_with (with_reducible (show wpList _ _ _ (Oper.mk (some 54) (.load 38 (.tmp 3)) _ _ _ _ :: _) _ _); refine still ?_)
      refine wpList_load_mid rfl 38 (.tmp 3) rfl X 0 rfl E.vals _ (range_of HX4.out) Try.underlying38 rfl el_info ?_
      go_wp2_with (with_reducible (show wpList _ _ _ (Oper.mk none (.store 38 (.tmp 6) (.tmp 54)) _ _ _ _ :: _) _ _); refine still ?_)
      refine list_put w4 Z 38 el0.vals E.vals HZ4.out rfl E.vals_one el_info rfl (.tmp 6) (.tmp 54) rfl rfl rfl (fun w5 h5 t5 => ?_)
      have H5 := Lib.hid h5
      have HT5 := Lib.hid (HT4.out.trans t5 (fun q hq e => by have := HWS.out; omega))
      clear h5 t5
      go_wp2_with fail
      refine bodyPost_ret (run_cell Try.f55 6 38 (by kernel_rfl) Z _ w5 (range_of H5.out) Try.underlying38 rfl el_info _ rfl) rfl ?_
      exact ⟨by rw [← HE.out]; first | rfl | simp [setV], HT5.out⟩
  · have hg : setV o f n s = o := by
      unfold setV
      rw [if_neg (by omega), if_neg (by omega), if_neg (by omega), if_neg (by omega), if_neg (by omega), if_neg (by omega), if_neg (by omega), if_neg (by omega), if_neg (by omega)]
    have HG := Lib.hid hg
    have d0 : (f == 0) = false := by simp; omega
    have d1 : (f == 1) = false := by simp; omega
    have d2 : (f == 2) = false := by simp; omega
    have d3 : (f == 3) = false := by simp; omega
    have d4 : (f == 4) = false := by simp; omega
    have d5 : (f == 5) = false := by simp; omega
    have d6 : (f == 6) = false := by simp; omega
    have d7 : (f == 7) = false := by simp; omega
    have d8 : (f == 8) = false := by simp; omega
    clear hg
    have HZ4 := HZH
    go_enter Try.func55, Try.ntmps55
    go_wp2_with (with_reducible (show wpList _ _ _ (Oper.mk (some 6) (.alloc 38) _ _ _ _ :: _) _ _); refine still ?_)
    refine list_exec rfl _ _ (HX0.out _ _ rfl) ?_
    go_wp2_with (with_reducible (show wpList _ _ _ (Oper.mk (some 54) (.load 38 (.tmp 3)) _ _ _ _ :: _) _ _); refine still ?_)
    refine wpList_load_mid rfl 38 (.tmp 3) rfl X 0 rfl o.vals _ (range_of HXH.out) Try.underlying38 rfl el_info ?_
    go_wp2_with (with_reducible (show wpList _ _ _ (Oper.mk none (.store 38 (.tmp 6) (.tmp 54)) _ _ _ _ :: _) _ _); refine still ?_)
    refine list_put w3 Z 38 el0.vals o.vals HZ4.out rfl o.vals_one el_info rfl (.tmp 6) (.tmp 54) rfl rfl rfl (fun w5 h5 t5 => ?_)
    have H5 := Lib.hid h5
    have HT5 := Lib.hid (HT.out.trans t5 (fun q hq e => by have := HWS.out; omega))
    clear h5 t5
    go_wp2_with fail
    refine bodyPost_ret (run_cell Try.f55 6 38 (by kernel_rfl) Z _ w5 (range_of H5.out) Try.underlying38 rfl el_info _ rfl) rfl ?_
    exact ⟨by rw [HG.out], HT5.out⟩
end Go.Proofs.Ytkciaafkhpjnaaa
namespace Go.Proofs.Ytkciaafkhpjnaaa
set_option maxRecDepth 100000
open Go.RowKit
set_option linter.unusedVariables false
set_option linter.unusedSimpArgs false


def fitsB (f n : Int) (s : ByteArray) : Bool := decide (0 ≤ f ∧ f < 9) && decide (getN (setV el0 f n s) f = n ∧ getS (setV el0 f n s) f = s)
theorem setV_kind (o : El) (hk : 0 ≤ o.kind ∧ o.kind ≤ 255) (f n : Int) (s : ByteArray) : 0 ≤ (setV o f n s).kind ∧ (setV o f n s).kind ≤ 255 := by
  unfold setV
  split
  · show 0 ≤ n % 256 ∧ n % 256 ≤ 255; omega
  · repeat' (split; exact hk)
    exact hk
set_option maxHeartbeats 4000000 in
theorem fits_any (w : World) (f n : Int) (s : ByteArray) : Calls Try.prog 64 #[.int .i64 f, .agg (vl n s).toArray] w fun e w' => e = .returned (.bool (fitsB f n s)) ∧ Turn (fun _ => False) w w' := by
  have hbx := box_alloc w 51 (vl n s)
  obtain ⟨X, hX⟩ : ∃ X, w.heap.size = X := ⟨_, rfl⟩
  obtain ⟨w1, hw1⟩ : ∃ w1, w.alloc (.cells (vl n s).toArray 51) = w1 := ⟨_, rfl⟩
  rw [hw1] at hbx
  have HXR := Lib.hid (show w1.rangeAt X 0 (vl n s) from hX ▸ hbx.range)
  have HT := Lib.hid hbx.turn
  clear hbx
  by_cases h1 : f < 0
  · have hb : fitsB f n s = false := by unfold fitsB; rw [decide_eq_false (by omega)]; rfl
    rw [hb]
    have d1 : decide (f < 0) = true := decide_eq_true h1
    clear hb
    go_enter Try.func64, Try.ntmps64
    go_wp2_with fail
    go_ret
    exact ⟨rfl, HT.out⟩
  · have d1 : decide (f < 0) = false := decide_eq_false h1
    by_cases h2 : 9 ≤ f
    · have hb : fitsB f n s = false := by unfold fitsB; rw [decide_eq_false (by omega)]; rfl
      rw [hb]
      have d2 : decide (9 ≤ f) = true := decide_eq_true h2
      clear hb
      go_enter Try.func64, Try.ntmps64
      go_wp2_with fail
      go_ret
      exact ⟨rfl, HT.out⟩
    · have d2 : decide (9 ≤ f) = false := decide_eq_false h2
      have hb : fitsB f n s = decide (getN (setV el0 f n s) f = n ∧ getS (setV el0 f n s) f = s) := by unfold fitsB; rw [decide_eq_true (by omega), Bool.true_and]
      have HBB := Lib.hid hb
      have hkk := setV_kind el0 (by decide) f n s
      clear hb h1 h2
      go_enter Try.func64, Try.ntmps64
      go_wp2_with fail
      refine wp_region_held_drew (S := fun wq => wq.rangeAt X 0 (vl n s)) (by kernel_rfl) HXR.out (fun hHeld => ?_)
      refine wpAnyH_take (i := 0) (v := .agg el0.vals.toArray) rfl (by kernel_rfl) (by kernel_rfl) (by kernel_rfl) (fun _ _ _ h => h) (Or.inl ⟨by rfl, ?yq1⟩) (by assumption) ?rq1
      case yq1 => (intro wq hSw; exact exec_build24 _ _ rfl _)
      case rq1 =>
      try simp only [Act.put, List.setIfInBounds_toArray, List.set_cons_zero, List.set_cons_succ, List.getElem_toArray, List.getElem_cons_zero, List.getElem_cons_succ]
      refine wpAnyH_take (i := 1) (v := .int .i64 f) rfl (by kernel_rfl) (by kernel_rfl) (by kernel_rfl) (fun _ _ _ h => h) (Or.inl ⟨by rfl, ?yq2⟩) (by assumption) ?rq2
      case yq2 => (intro wq hSw; (try simp only [List.getElem_toArray, List.getElem_cons_zero, List.getElem_cons_succ]); go_simp; (try with_reducible rfl); all_goals (try omega))
      case rq2 =>
      try simp only [Act.put, List.setIfInBounds_toArray, List.set_cons_zero, List.set_cons_succ, List.getElem_toArray, List.getElem_cons_zero, List.getElem_cons_succ]
      refine wpAnyH_take (i := 2) (v := .agg (vl n s).toArray) rfl (by kernel_rfl) (by kernel_rfl) (by kernel_rfl) (fun _ _ _ h => h) (Or.inl ⟨by rfl, ?yq3⟩) (by assumption) ?rq3
      case yq3 => (intro wq hSw; exact exec_load_mid _ _ 51 (.tmp 3) rfl X 0 rfl (vl n s) _ _ hSw Try.underlying51 rfl vl_info)
      case rq3 =>
      try simp only [Act.put, List.setIfInBounds_toArray, List.set_cons_zero, List.set_cons_succ, List.getElem_toArray, List.getElem_cons_zero, List.getElem_cons_succ]
      refine wpAnyH_take (i := 4) (v := .int .i64 f) rfl (by kernel_rfl) (by kernel_rfl) (by kernel_rfl) (fun _ _ _ h => h) (Or.inl ⟨by rfl, ?yq4⟩) (by assumption) ?rq4
      case yq4 => (intro wq hSw; (try simp only [List.getElem_toArray, List.getElem_cons_zero, List.getElem_cons_succ]); go_simp; (try with_reducible rfl); all_goals (try omega))
      case rq4 =>
      try simp only [Act.put, List.setIfInBounds_toArray, List.set_cons_zero, List.set_cons_succ, List.getElem_toArray, List.getElem_cons_zero, List.getElem_cons_succ]
      refine wpAnyH_take (i := 6) (v := .agg (vl n s).toArray) rfl (by kernel_rfl) (by kernel_rfl) (by kernel_rfl) (fun _ _ _ h => h) (Or.inl ⟨by rfl, ?yq5⟩) (by assumption) ?rq5
      case yq5 => (intro wq hSw; exact exec_load_mid _ _ 51 (.tmp 3) rfl X 0 rfl (vl n s) _ _ hSw Try.underlying51 rfl vl_info)
      case rq5 =>
      try simp only [Act.put, List.setIfInBounds_toArray, List.set_cons_zero, List.set_cons_succ, List.getElem_toArray, List.getElem_cons_zero, List.getElem_cons_succ]
      refine wpAnyH_ready (rs := [3]) (by kernel_rfl) (by simp) ?_
      refine AllReadyH.cons rfl (fun K hK => ?_) AllReadyH.nil
      go_simp
      refine (with_any w1.drew el0 f n s).mono ?_
      rintro r w2 ⟨rfl, t2⟩
      have HT2 := Lib.hid t2
      have HX2 := Lib.hid (rangeAt_turn (rangeAt_turn HXR.out ((Turn.refl (fun _ => False) w1).drew) id) t2 id)
      clear t2
      refine hK.out _ _ HX2.out (fun _ => ?_)
      clear hK K
      try simp only [Act.put, List.setIfInBounds_toArray, List.set_cons_zero, List.set_cons_succ, List.getElem_toArray, List.getElem_cons_zero, List.getElem_cons_succ]
      refine wpAnyH_ready (rs := [5]) (by kernel_rfl) (by simp) ?_
      refine AllReadyH.cons rfl (fun K hK => ?_) AllReadyH.nil
      go_simp
      refine (get_any w2 (setV el0 f n s) f hkk).mono ?_
      rintro r w3 ⟨rfl, t3⟩
      have HT3 := Lib.hid (HT2.out.trans t3 (fun _ _ => id))
      have HX3 := Lib.hid (rangeAt_turn HX2.out t3 id)
      clear t3
      refine hK.out _ _ HX3.out (fun _ => ?_)
      clear hK K
      try simp only [Act.put, List.setIfInBounds_toArray, List.set_cons_zero, List.set_cons_succ, List.getElem_toArray, List.getElem_cons_zero, List.getElem_cons_succ]
      refine wpAnyH_take (i := 7) (v := .bool (decide (getN (setV el0 f n s) f = n ∧ getS (setV el0 f n s) f = s))) rfl (by kernel_rfl) (by kernel_rfl) (by kernel_rfl) (fun _ _ _ h => h) (Or.inl ⟨by rfl, ?yq6⟩) (by assumption) ?rq6
      case yq6 => (intro wq hSw; exact exec_eql_vl _ _ rfl _ _ _ _ wq rfl rfl)
      case rq6 =>
      try simp only [Act.put, List.setIfInBounds_toArray, List.set_cons_zero, List.set_cons_succ, List.getElem_toArray, List.getElem_cons_zero, List.getElem_cons_succ]
      refine wpAnyH_take (i := 8) (v := .bool (decide (getN (setV el0 f n s) f = n ∧ getS (setV el0 f n s) f = s))) rfl (by kernel_rfl) (by kernel_rfl) (by kernel_rfl) (fun _ _ _ h => h) (Or.inl ⟨by rfl, ?yq7⟩) (by assumption) ?rq7
      case yq7 => (intro wq hSw; (try simp only [List.getElem_toArray, List.getElem_cons_zero, List.getElem_cons_succ]); go_simp; (try with_reducible rfl); all_goals (try omega))
      case rq7 =>
      try simp only [Act.put, List.setIfInBounds_toArray, List.set_cons_zero, List.set_cons_succ, List.getElem_toArray, List.getElem_cons_zero, List.getElem_cons_succ]
      refine wpAnyH_done (by kernel_rfl) ?_ _
      clear hHeld
      obtain ⟨bb, hbb⟩ : ∃ bb, decide (getN (setV el0 f n s) f = n ∧ getS (setV el0 f n s) f = s) = bb := ⟨_, rfl⟩
      rw [hbb]
      have HB := Lib.hid hbb
      clear hbb hkk
      go_wp2_with fail
      go_ret
      refine ⟨by rw [HBB.out, HB.out]; rfl, HT.out.trans (((Turn.refl (fun _ => False) w1).drew).trans HT3.out (fun _ _ => id)) (fun _ _ => id)⟩

theorem wp_put_var {P : Program} {o : Oper} {a : Act} {K : Act → World → Prop} {Q : Exit → Act → World → Prop} (w : World) (B : Nat) (T : TypeId) (zs cs : List Value) (hh : w.heap[B]? = some (.cells zs.toArray T (0, 0))) (hl : zs.length = cs.length) (h1 : ∀ v ∈ cs, v.oneCell' = true) (hi : (P.info? T).map (·.size) = some cs.length)
    (x y : Operand) (ho : o.op = .store T x y) (hx : a.eval x = .pointer (some ⟨B, 0, none⟩)) (hy : a.eval y = .agg cs.toArray)
    (h : ∀ w', w'.heap[B]? = some (.cells cs.toArray T (0, 0)) → Turn (fun q => q = B) w w' → K (a.put o.dst undef) w') : o.wp P a w K Q := by
  refine wp_store_mid T x y ho B 0 cs.toArray hx hy (by have := there_row hh; rw [hl] at this; simpa using this) (by simpa using hi) (all_oneCell_toArray h1) (h _ ?_ (turn_setCells B cs 0 w))
  have := heap_setCells B T cs 0 w zs hh (by omega)
  rw [this]
  simp [hl]
theorem info3p : (Try.prog.info? 3).map (fun i => (i.zero, i.size, i.bytes)) = some (some (.int .i64 0), 1, 8) := by kernel_rfl
theorem info9p : (Try.prog.info? 9).map (fun i => (i.zero, i.size, i.bytes)) = some (some (.string e0), 1, 16) := by kernel_rfl
def nsV (o : El) : List Value := [.int .i64 o.kind, .int .i64 o.par, .int .i64 o.ord, .int .i64 0, .int .i64 o.frm, .int .i64 o.to, .int .i64 0, .int .i64 0, .int .i64 0]
def ssV (o : El) : List Value := [.string e0, .string e0, .string e0, .string o.name, .string e0, .string e0, .string o.ev, .string o.gd, .string o.ac]
theorem build_ns (a b c d e : Int) (w : World) : (Instr.buildSlice 45 9 #[(0, .int .i64 a), (1, .int .i64 b), (2, .int .i64 c), (3, .int .i64 0), (4, .int .i64 d), (5, .int .i64 e), (6, .int .i64 0), (7, .int .i64 0), (8, .int .i64 0)]).run Try.prog w = .ok (.slice (some ⟨w.heap.size, 0, none⟩) 9 9) (w.alloc (.cells #[.int .i64 a, .int .i64 b, .int .i64 c, .int .i64 0, .int .i64 d, .int .i64 e, .int .i64 0, .int .i64 0, .int .i64 0] 3)) := by
  obtain ⟨i0, hi, hz0, hz1, hz2⟩ := info_parts info3p
  refine run_buildSlice (P := Try.prog) w 45 3 9 _ _ i0 _ Try.underlying45 hi hz0 (by rw [hz1]; decide) (by rw [hz1]; decide) ?_
  rw [hz1]
  kernel_rfl
theorem build_ss (a b c d : ByteArray) (w : World) : (Instr.buildSlice 79 9 #[(0, .string e0), (1, .string e0), (2, .string e0), (3, .string a), (4, .string e0), (5, .string e0), (6, .string b), (7, .string c), (8, .string d)]).run Try.prog w = .ok (.slice (some ⟨w.heap.size, 0, none⟩) 9 9) (w.alloc (.cells #[.string e0, .string e0, .string e0, .string a, .string e0, .string e0, .string b, .string c, .string d] 9)) := by
  obtain ⟨i0, hi, hz0, hz1, hz2⟩ := info_parts info9p
  refine run_buildSlice (P := Try.prog) w 79 9 9 _ _ i0 _ Try.underlying79 hi hz0 (by rw [hz1]; decide) (by rw [hz1]; decide) ?_
  rw [hz1]
  kernel_rfl
theorem exec_ns (ev : Operand → Value) (op : Oper) (x0 x1 x2 x4 x5 : Operand) (ho : op.op = .buildSlice 45 9 #[(0, x0), (1, x1), (2, x2), (3, .const (.int .i64 0)), (4, x4), (5, x5), (6, .const (.int .i64 0)), (7, .const (.int .i64 0)), (8, .const (.int .i64 0))]) (o : El) (hc : ev (.const (.int .i64 0)) = .int .i64 0) (h0 : ev x0 = .int .i64 o.kind) (h1 : ev x1 = .int .i64 o.par) (h2 : ev x2 = .int .i64 o.ord) (h4 : ev x4 = .int .i64 o.frm) (h5 : ev x5 = .int .i64 o.to) (w : World) : (execOp ev op).run Try.prog w = .ok (.value (.slice (some ⟨w.heap.size, 0, none⟩) 9 9)) (w.alloc (.cells (nsV o).toArray 3)) := by
  unfold execOp
  simp only [ho, List.map_toArray, List.map_cons, List.map_nil, hc, h0, h1, h2, h4, h5, Sem.run_bind, Sem.run_pure, build_ns, Result.andThen_ok, nsV]
theorem exec_ss (ev : Operand → Value) (op : Oper) (x3 x6 x7 x8 : Operand) (ho : op.op = .buildSlice 79 9 #[(0, .const (.string e0)), (1, .const (.string e0)), (2, .const (.string e0)), (3, x3), (4, .const (.string e0)), (5, .const (.string e0)), (6, x6), (7, x7), (8, x8)]) (o : El) (hc : ev (.const (.string e0)) = .string e0) (h3 : ev x3 = .string o.name) (h6 : ev x6 = .string o.ev) (h7 : ev x7 = .string o.gd) (h8 : ev x8 = .string o.ac) (w : World) : (execOp ev op).run Try.prog w = .ok (.value (.slice (some ⟨w.heap.size, 0, none⟩) 9 9)) (w.alloc (.cells (ssV o).toArray 9)) := by
  unfold execOp
  simp only [ho, List.map_toArray, List.map_cons, List.map_nil, hc, h3, h6, h7, h8, Sem.run_bind, Sem.run_pure, build_ss, Result.andThen_ok, ssV]
theorem nsV_at (o : El) (k : Nat) (hk : k < 9) : (nsV o)[k]? = some (.int .i64 (getN o (k : Int))) := by
  rcases (by omega : k = 0 ∨ k = 1 ∨ k = 2 ∨ k = 3 ∨ k = 4 ∨ k = 5 ∨ k = 6 ∨ k = 7 ∨ k = 8) with rfl | rfl | rfl | rfl | rfl | rfl | rfl | rfl | rfl <;> rfl
theorem ssV_at (o : El) (k : Nat) (hk : k < 9) : (ssV o)[k]? = some (.string (getS o (k : Int))) := by
  rcases (by omega : k = 0 ∨ k = 1 ∨ k = 2 ∨ k = 3 ∨ k = 4 ∨ k = 5 ∨ k = 6 ∨ k = 7 ∨ k = 8) with rfl | rfl | rfl | rfl | rfl | rfl | rfl | rfl | rfl <;> rfl
theorem get_out {o : El} {f : Int} (h : f < 0 ∨ 8 < f) : getN o f = 0 ∧ getS o f = e0 := by
  unfold getN getS
  rw [if_neg (by omega), if_neg (by omega), if_neg (by omega), if_neg (by omega), if_neg (by omega), if_neg (by omega), if_neg (by omega), if_neg (by omega), if_neg (by omega)]
  exact ⟨rfl, rfl⟩
set_option maxHeartbeats 4000000 in
theorem value_any (w : World) (o : El) (f : Int) (hk : 0 ≤ o.kind ∧ o.kind ≤ 255) : Calls Try.prog 21 #[.agg o.vals.toArray, .int .i64 f] w (GetPost w o f) := by
  have hbx := box_alloc w 38 o.vals
  obtain ⟨X, hX⟩ : ∃ X, w.heap.size = X := ⟨_, rfl⟩
  obtain ⟨w1, hw1⟩ : ∃ w1, w.alloc (.cells o.vals.toArray 38) = w1 := ⟨_, rfl⟩
  rw [hw1] at hbx
  have hby := box_alloc w1 51 (vl 0 e0)
  obtain ⟨Y, hY⟩ : ∃ Y, w1.heap.size = Y := ⟨_, rfl⟩
  obtain ⟨w2, hw2⟩ : ∃ w2, w1.alloc (.cells (vl 0 e0).toArray 51) = w2 := ⟨_, rfl⟩
  rw [hw2] at hby
  have hbn := box_alloc w2 3 (nsV o)
  obtain ⟨A, hA⟩ : ∃ A, w2.heap.size = A := ⟨_, rfl⟩
  obtain ⟨w3, hw3⟩ : ∃ w3, w2.alloc (.cells (nsV o).toArray 3) = w3 := ⟨_, rfl⟩
  rw [hw3] at hbn
  have hbs := box_alloc w3 9 (ssV o)
  obtain ⟨B, hB⟩ : ∃ B, w3.heap.size = B := ⟨_, rfl⟩
  obtain ⟨w4, hw4⟩ : ∃ w4, w3.alloc (.cells (ssV o).toArray 9) = w4 := ⟨_, rfl⟩
  rw [hw4] at hbs
  have hx0 : ∀ ev op, op.op = .alloc 51 → (execOp ev op).run Try.prog w1 = .ok (.value (.pointer (some ⟨Y, 0, none⟩))) w2 := fun ev op ho => by rw [← hw2, ← hY]; exact exec_zero37 ev op ho _
  have hx1 : ∀ ev op x0 x1 x2 x4 x5, op.op = .buildSlice 45 9 #[(0, x0), (1, x1), (2, x2), (3, .const (.int .i64 0)), (4, x4), (5, x5), (6, .const (.int .i64 0)), (7, .const (.int .i64 0)), (8, .const (.int .i64 0))] → ev (.const (.int .i64 0)) = .int .i64 0 → ev x0 = .int .i64 o.kind → ev x1 = .int .i64 o.par → ev x2 = .int .i64 o.ord → ev x4 = .int .i64 o.frm → ev x5 = .int .i64 o.to → (execOp ev op).run Try.prog w2 = .ok (.value (.slice (some ⟨A, 0, none⟩) 9 9)) w3 := fun ev op x0 x1 x2 x4 x5 ho hc h0 h1 h2 h4 h5 => by rw [← hw3, ← hA]; exact exec_ns ev op x0 x1 x2 x4 x5 ho o hc h0 h1 h2 h4 h5 _
  have hx2 : ∀ ev op x3 x6 x7 x8, op.op = .buildSlice 79 9 #[(0, .const (.string e0)), (1, .const (.string e0)), (2, .const (.string e0)), (3, x3), (4, .const (.string e0)), (5, .const (.string e0)), (6, x6), (7, x7), (8, x8)] → ev (.const (.string e0)) = .string e0 → ev x3 = .string o.name → ev x6 = .string o.ev → ev x7 = .string o.gd → ev x8 = .string o.ac → (execOp ev op).run Try.prog w3 = .ok (.value (.slice (some ⟨B, 0, none⟩) 9 9)) w4 := fun ev op x3 x6 x7 x8 ho hc h3 h6 h7 h8 => by rw [← hw4, ← hB]; exact exec_ss ev op x3 x6 x7 x8 ho o hc h3 h6 h7 h8 _
  have hYX : Y = X + 1 := by rw [← hY, hbx.size, hX]
  have hAY : A = Y + 1 := by rw [← hA, hby.size, hY]
  have hBA : B = A + 1 := by rw [← hB, hbn.size, hA]
  have hy2 : w2.heap[Y]? = some (.cells (vl 0 e0).toArray 51 (0, 0)) := by rw [← hY]; exact hby.heap
  have t24 : Turn (fun _ => False) w2 w4 := hbn.turn.trans hbs.turn (fun _ _ => id)
  have hyh : w4.heap[Y]? = some (.cells (vl 0 e0).toArray 51 (0, 0)) := by rw [t24.block Y (by omega) id]; exact hy2
  have hr := rangeAt_turn hbx.range hby.turn id
  rw [hX] at hr
  have hcA : ∀ k, k < 9 → w4.cell? ⟨A, k, none⟩ = some (.int .i64 (getN o (k : Int))) := fun k hk => by
    refine (hbs.turn.cell (p := ⟨A, k, none⟩) (by show A < _; omega) id).trans ?_
    rw [← hA]; exact hbn.cell k _ (nsV_at o k hk)
  have hcB : ∀ k, k < 9 → w4.cell? ⟨B, k, none⟩ = some (.string (getS o (k : Int))) := fun k hk => by
    rw [← hB]; exact hbs.cell k _ (ssV_at o k hk)
  have HYH := Lib.hid hyh
  have HT := Lib.hid ((hbx.turn.trans hby.turn (fun _ _ => id)).trans t24 (fun _ _ => id))
  have HWS := Lib.hid (show w.heap.size < Y ∧ Y < A ∧ A < B by omega)
  have HX0 := Lib.hid hx0
  have HX1 := Lib.hid hx1
  have HX2 := Lib.hid hx2
  have HCA := Lib.hid hcA
  have HCB := Lib.hid hcB
  have c1 : w2.cell? ⟨X, 1, none⟩ = some (.int .u8 o.kind) := by have := hr 1 _ rfl; rwa [Nat.zero_add] at this
  have c2 : w2.cell? ⟨X, 2, none⟩ = some (.int .i64 o.par) := by have := hr 2 _ rfl; rwa [Nat.zero_add] at this
  have c3 : w2.cell? ⟨X, 3, none⟩ = some (.int .i64 o.ord) := by have := hr 3 _ rfl; rwa [Nat.zero_add] at this
  have c5 : w2.cell? ⟨X, 5, none⟩ = some (.int .i64 o.frm) := by have := hr 5 _ rfl; rwa [Nat.zero_add] at this
  have c6 : w2.cell? ⟨X, 6, none⟩ = some (.int .i64 o.to) := by have := hr 6 _ rfl; rwa [Nat.zero_add] at this
  have e4 : w3.cell? ⟨X, 4, none⟩ = some (.string o.name) := by have := rangeAt_turn hr hbn.turn id 4 _ rfl; rwa [Nat.zero_add] at this
  have e7 : w3.cell? ⟨X, 7, none⟩ = some (.string o.ev) := by have := rangeAt_turn hr hbn.turn id 7 _ rfl; rwa [Nat.zero_add] at this
  have e8 : w3.cell? ⟨X, 8, none⟩ = some (.string o.gd) := by have := rangeAt_turn hr hbn.turn id 8 _ rfl; rwa [Nat.zero_add] at this
  have e9 : w3.cell? ⟨X, 9, none⟩ = some (.string o.ac) := by have := rangeAt_turn hr hbn.turn id 9 _ rfl; rwa [Nat.zero_add] at this
  have hwk : IntKind.i64.wrap o.kind = o.kind := by rw [IntKind.wrap_i64]; omega
  clear hbx hby hbn hbs hx0 hx1 hx2 hyh hy2 hr hYX hAY hBA t24 hcA hcB hw2 hw3 hw4 hA hB hY
  by_cases h1 : f < 0
  · have HG := Lib.hid (get_out (o := o) (.inl h1))
    have d1 : decide (f < 0) = true := decide_eq_true h1
    go_enter Try.func21, Try.ntmps21
    go_wp2_with (with_reducible (show wpList _ _ _ (Oper.mk (some 4) (.alloc 51) _ _ _ _ :: _) _ _); refine still ?_)
    refine list_exec rfl _ _ (HX0.out _ _ rfl) ?_
    go_wp2_with (with_reducible (show wpList _ _ _ (Oper.mk (some 18) _ _ _ _ _ :: _) _ _); refine still ?_)
    refine list_exec rfl _ _ (HX1.out _ _ (.tmp 9) (.tmp 11) (.tmp 13) (.tmp 15) (.tmp 17) rfl rfl rfl rfl rfl rfl rfl) ?_
    go_wp2_with (with_reducible (show wpList _ _ _ (Oper.mk (some 27) _ _ _ _ _ :: _) _ _); refine still ?_)
    refine list_exec rfl _ _ (HX2.out _ _ (.tmp 20) (.tmp 22) (.tmp 24) (.tmp 26) rfl rfl rfl rfl rfl rfl) ?_
    clear c1 c2 c3 c5 c6 e4 e7 e8 e9
    go_wp2_with (with_reducible (show wpList _ _ _ (Oper.mk (some 34) _ _ _ _ _ :: _) _ _); refine still ?_)
    refine list_exec rfl _ _ (exec_vl0 _ _ rfl _) ?_
    go_wp2_with (with_reducible (show wpList _ _ _ (Oper.mk none (.store 51 (.tmp 4) (.tmp 34)) _ _ _ _ :: _) _ _); refine still ?_)
    refine list_put w4 Y 51 (vl 0 e0) (vl 0 e0) HYH.out rfl (vl_one _ _) vl_info rfl (.tmp 4) (.tmp 34) rfl rfl rfl (fun w5 h5 t5 => ?_)
    have H5 := Lib.hid h5
    have HT5 := Lib.hid (HT.out.trans t5 (fun q hq e => by have := HWS.out; omega))
    clear h5 t5
    go_wp2_with fail
    refine bodyPost_ret (run_cell Try.f21 4 51 (by kernel_rfl) Y _ w5 (range_of H5.out) Try.underlying51 rfl vl_info _ rfl) rfl ?_
    exact ⟨by rw [HG.out.1, HG.out.2], HT5.out⟩
  · have d1 : decide (f < 0) = false := decide_eq_false h1
    by_cases h2 : 8 < f
    · have HG := Lib.hid (get_out (o := o) (.inr h2))
      have d2 : decide (8 < f) = true := decide_eq_true h2
      go_enter Try.func21, Try.ntmps21
      go_wp2_with (with_reducible (show wpList _ _ _ (Oper.mk (some 4) (.alloc 51) _ _ _ _ :: _) _ _); refine still ?_)
      refine list_exec rfl _ _ (HX0.out _ _ rfl) ?_
      go_wp2_with (with_reducible (show wpList _ _ _ (Oper.mk (some 18) _ _ _ _ _ :: _) _ _); refine still ?_)
      refine list_exec rfl _ _ (HX1.out _ _ (.tmp 9) (.tmp 11) (.tmp 13) (.tmp 15) (.tmp 17) rfl rfl rfl rfl rfl rfl rfl) ?_
      go_wp2_with (with_reducible (show wpList _ _ _ (Oper.mk (some 27) _ _ _ _ _ :: _) _ _); refine still ?_)
      refine list_exec rfl _ _ (HX2.out _ _ (.tmp 20) (.tmp 22) (.tmp 24) (.tmp 26) rfl rfl rfl rfl rfl rfl) ?_
      clear c1 c2 c3 c5 c6 e4 e7 e8 e9
      go_wp2_with (with_reducible (show wpList _ _ _ (Oper.mk (some 34) _ _ _ _ _ :: _) _ _); refine still ?_)
      refine list_exec rfl _ _ (exec_vl0 _ _ rfl _) ?_
      go_wp2_with (with_reducible (show wpList _ _ _ (Oper.mk none (.store 51 (.tmp 4) (.tmp 34)) _ _ _ _ :: _) _ _); refine still ?_)
      refine list_put w4 Y 51 (vl 0 e0) (vl 0 e0) HYH.out rfl (vl_one _ _) vl_info rfl (.tmp 4) (.tmp 34) rfl rfl rfl (fun w5 h5 t5 => ?_)
      have H5 := Lib.hid h5
      have HT5 := Lib.hid (HT.out.trans t5 (fun q hq e => by have := HWS.out; omega))
      clear h5 t5
      go_wp2_with fail
      refine bodyPost_ret (run_cell Try.f21 4 51 (by kernel_rfl) Y _ w5 (range_of H5.out) Try.underlying51 rfl vl_info _ rfl) rfl ?_
      exact ⟨by rw [HG.out.1, HG.out.2], HT5.out⟩
    · have d2 : decide (8 < f) = false := decide_eq_false h2
      obtain ⟨k, rfl⟩ : ∃ k : Nat, f = (k : Int) := ⟨f.toNat, by omega⟩
      have hk9 : k < 9 := by omega
      have gk : (0 : Int) ≤ (k : Int) ∧ (k : Int) < 9 := by omega
      have ca := HCA.out k hk9
      have cb := HCB.out k hk9
      obtain ⟨N, hN⟩ : ∃ N, getN o (k : Int) = N := ⟨_, rfl⟩
      obtain ⟨S, hS⟩ : ∃ S, getS o (k : Int) = S := ⟨_, rfl⟩
      rw [hN] at ca
      rw [hS] at cb
      have HNN := Lib.hid hN
      have HSS := Lib.hid hS
      clear hN hS
      go_enter Try.func21, Try.ntmps21
      go_wp2_with (with_reducible (show wpList _ _ _ (Oper.mk (some 4) (.alloc 51) _ _ _ _ :: _) _ _); refine still ?_)
      refine list_exec rfl _ _ (HX0.out _ _ rfl) ?_
      go_wp2_with (with_reducible (show wpList _ _ _ (Oper.mk (some 18) _ _ _ _ _ :: _) _ _); refine still ?_)
      refine list_exec rfl _ _ (HX1.out _ _ (.tmp 9) (.tmp 11) (.tmp 13) (.tmp 15) (.tmp 17) rfl rfl rfl rfl rfl rfl rfl) ?_
      go_wp2_with (with_reducible (show wpList _ _ _ (Oper.mk (some 27) _ _ _ _ _ :: _) _ _); refine still ?_)
      refine list_exec rfl _ _ (HX2.out _ _ (.tmp 20) (.tmp 22) (.tmp 24) (.tmp 26) rfl rfl rfl rfl rfl rfl) ?_
      clear c1 c2 c3 c5 c6 e4 e7 e8 e9
      go_wp2_with fail
      refine wp_region_held_drew (S := fun wq => wq.cell? ⟨A, k, none⟩ = some (.int .i64 N) ∧ wq.cell? ⟨B, k, none⟩ = some (.string S)) (by kernel_rfl) ⟨ca, cb⟩ (fun hHeld => ?_)
      refine wpAnyH_take (i := 0) (v := .slice (some ⟨A, 0, none⟩) 9 9) rfl (by kernel_rfl) (by kernel_rfl) (by kernel_rfl) (fun _ _ _ h => h) (Or.inl ⟨by rfl, ?yq8⟩) (by assumption) ?rq8
      case yq8 => (intro wq hSw; (try simp only [List.getElem_toArray, List.getElem_cons_zero, List.getElem_cons_succ]); go_simp; (try with_reducible rfl); all_goals (try omega))
      case rq8 =>
      try simp only [Act.put, List.setIfInBounds_toArray, List.set_cons_zero, List.set_cons_succ, List.getElem_toArray, List.getElem_cons_zero, List.getElem_cons_succ]
      refine wpAnyH_take (i := 1) (v := .int .i64 (k : Int)) rfl (by kernel_rfl) (by kernel_rfl) (by kernel_rfl) (fun _ _ _ h => h) (Or.inl ⟨by rfl, ?yq9⟩) (by assumption) ?rq9
      case yq9 => (intro wq hSw; (try simp only [List.getElem_toArray, List.getElem_cons_zero, List.getElem_cons_succ]); go_simp; (try with_reducible rfl); all_goals (try omega))
      case rq9 =>
      try simp only [Act.put, List.setIfInBounds_toArray, List.set_cons_zero, List.set_cons_succ, List.getElem_toArray, List.getElem_cons_zero, List.getElem_cons_succ]
      refine wpAnyH_take (i := 2) (v := .pointer (some ⟨A, k, none⟩)) rfl (by kernel_rfl) (by kernel_rfl) (by kernel_rfl) (fun _ _ _ h => h) (Or.inl ⟨by rfl, ?yq10⟩) (by assumption) ?rq10
      case yq10 => (intro wq hSw; (try simp only [List.getElem_toArray, List.getElem_cons_zero, List.getElem_cons_succ]); go_simp; (try with_reducible rfl); all_goals (try omega))
      case rq10 =>
      try simp only [Act.put, List.setIfInBounds_toArray, List.set_cons_zero, List.set_cons_succ, List.getElem_toArray, List.getElem_cons_zero, List.getElem_cons_succ]
      refine wpAnyH_take (i := 3) (v := .int .i64 N) rfl (by kernel_rfl) (by kernel_rfl) (by kernel_rfl) (fun _ _ _ h => h) (Or.inl ⟨by rfl, ?yq11⟩) (by assumption) ?rq11
      case yq11 => (intro wq hSw; obtain ⟨k1, k2⟩ := hSw; (try simp only [List.getElem_toArray, List.getElem_cons_zero, List.getElem_cons_succ]); go_simp; (try with_reducible rfl); all_goals (try omega))
      case rq11 =>
      try simp only [Act.put, List.setIfInBounds_toArray, List.set_cons_zero, List.set_cons_succ, List.getElem_toArray, List.getElem_cons_zero, List.getElem_cons_succ]
      refine wpAnyH_take (i := 4) (v := .slice (some ⟨B, 0, none⟩) 9 9) rfl (by kernel_rfl) (by kernel_rfl) (by kernel_rfl) (fun _ _ _ h => h) (Or.inl ⟨by rfl, ?yq12⟩) (by assumption) ?rq12
      case yq12 => (intro wq hSw; (try simp only [List.getElem_toArray, List.getElem_cons_zero, List.getElem_cons_succ]); go_simp; (try with_reducible rfl); all_goals (try omega))
      case rq12 =>
      try simp only [Act.put, List.setIfInBounds_toArray, List.set_cons_zero, List.set_cons_succ, List.getElem_toArray, List.getElem_cons_zero, List.getElem_cons_succ]
      refine wpAnyH_take (i := 5) (v := .int .i64 (k : Int)) rfl (by kernel_rfl) (by kernel_rfl) (by kernel_rfl) (fun _ _ _ h => h) (Or.inl ⟨by rfl, ?yq13⟩) (by assumption) ?rq13
      case yq13 => (intro wq hSw; (try simp only [List.getElem_toArray, List.getElem_cons_zero, List.getElem_cons_succ]); go_simp; (try with_reducible rfl); all_goals (try omega))
      case rq13 =>
      try simp only [Act.put, List.setIfInBounds_toArray, List.set_cons_zero, List.set_cons_succ, List.getElem_toArray, List.getElem_cons_zero, List.getElem_cons_succ]
      refine wpAnyH_take (i := 6) (v := .pointer (some ⟨B, k, none⟩)) rfl (by kernel_rfl) (by kernel_rfl) (by kernel_rfl) (fun _ _ _ h => h) (Or.inl ⟨by rfl, ?yq14⟩) (by assumption) ?rq14
      case yq14 => (intro wq hSw; (try simp only [List.getElem_toArray, List.getElem_cons_zero, List.getElem_cons_succ]); go_simp; (try with_reducible rfl); all_goals (try omega))
      case rq14 =>
      try simp only [Act.put, List.setIfInBounds_toArray, List.set_cons_zero, List.set_cons_succ, List.getElem_toArray, List.getElem_cons_zero, List.getElem_cons_succ]
      refine wpAnyH_take (i := 7) (v := .string S) rfl (by kernel_rfl) (by kernel_rfl) (by kernel_rfl) (fun _ _ _ h => h) (Or.inl ⟨by rfl, ?yq15⟩) (by assumption) ?rq15
      case yq15 => (intro wq hSw; obtain ⟨k1, k2⟩ := hSw; (try simp only [List.getElem_toArray, List.getElem_cons_zero, List.getElem_cons_succ]); go_simp; (try with_reducible rfl); all_goals (try omega))
      case rq15 =>
      try simp only [Act.put, List.setIfInBounds_toArray, List.set_cons_zero, List.set_cons_succ, List.getElem_toArray, List.getElem_cons_zero, List.getElem_cons_succ]
      refine wpAnyH_take (i := 8) (v := .agg (vl N S).toArray) rfl (by kernel_rfl) (by kernel_rfl) (by kernel_rfl) (fun _ _ _ h => h) (Or.inl ⟨by rfl, ?yq16⟩) (by assumption) ?rq16
      case yq16 => (intro wq hSw; exact exec_vlB _ _ _ _ N S rfl rfl rfl _)
      case rq16 =>
      try simp only [Act.put, List.setIfInBounds_toArray, List.set_cons_zero, List.set_cons_succ, List.getElem_toArray, List.getElem_cons_zero, List.getElem_cons_succ]
      refine wpAnyH_ready (rs := [9]) (by kernel_rfl) (by simp) ?_
      refine AllReadyH.cons rfl (fun K hK => ?_) AllReadyH.nil
      rw [if_pos (by rfl)]
      refine wp_put_var w4.drew Y 51 (vl 0 e0) (vl N S) HYH.out rfl (vl_one _ _) vl_info (.tmp 4) (.tmp 43) rfl rfl rfl (fun w5 h5 t5 => ?_)
      have H5 := Lib.hid h5
      have T5 := Lib.hid t5
      clear h5 t5
      refine hK.out _ _ ⟨(T5.out.cell (p := ⟨A, k, none⟩) (World.block_lt_of_cell? w4 _ ca) (by show ¬ A = Y; have := HWS.out; omega)).trans ca, (T5.out.cell (p := ⟨B, k, none⟩) (World.block_lt_of_cell? w4 _ cb) (by show ¬ B = Y; have := HWS.out; omega)).trans cb⟩ (fun _ => ?_)
      clear hK K
      try simp only [Act.put, List.setIfInBounds_toArray, List.set_cons_zero, List.set_cons_succ, List.getElem_toArray, List.getElem_cons_zero, List.getElem_cons_succ]
      refine wpAnyH_done (by kernel_rfl) ?_ _
      clear hHeld
      have HT5 := Lib.hid ((HT.out.drew).trans T5.out (fun q hq e => by have := HWS.out; omega))
      clear ca cb
      go_wp2_with fail
      refine bodyPost_ret (run_cell Try.f21 4 51 (by kernel_rfl) Y _ w5 (range_of H5.out) Try.underlying51 rfl vl_info _ rfl) rfl ?_
      exact ⟨by rw [HNN.out, HSS.out], HT5.out⟩
end Go.Proofs.Ytkciaafkhpjnaaa
namespace Go.Proofs.Ytkciaafkhpjnaaa
set_option maxRecDepth 100000
open Go.RowKit
set_option linter.unusedVariables false
set_option linter.unusedSimpArgs false


def nsP (x : El) (k : Nat) : Int := if k = 0 then x.par else if k = 1 then x.ord else if k = 2 then x.frm else x.to
def ssP (x : El) (k : Nat) : ByteArray := if k = 0 then x.name else if k = 1 then x.ev else if k = 2 then x.gd else x.ac
def okN (n : Int) : Bool := decide (0 ≤ n ∧ n ≤ 1048576)
def fineB (x : El) : Bool := decide (1 ≤ x.id ∧ x.id ≤ 1048576) && ((List.range 4).all (fun k => okN (nsP x k)) && (List.range 4).all (fun k => decide ((ssP x k).size ≤ 12)))
theorem fine_id {x : El} (h : ¬ (1 ≤ x.id ∧ x.id ≤ 1048576)) : fineB x = false := by unfold fineB; rw [decide_eq_false h]; rfl
theorem fine_ns {x : El} {k : Nat} (hk : k < 4) (h : okN (nsP x k) = false) : fineB x = false := by
  unfold fineB
  have : ((List.range 4).all fun k => okN (nsP x k)) = false := by
    rw [List.all_eq_false]
    exact ⟨k, by simpa using hk, by rw [h]; simp⟩
  rw [this, Bool.false_and, Bool.and_false]
theorem fine_ss {x : El} {k : Nat} (hk : k < 4) (h : 12 < (ssP x k).size) : fineB x = false := by
  unfold fineB
  have : ((List.range 4).all fun k => decide ((ssP x k).size ≤ 12)) = false := by
    rw [List.all_eq_false]
    exact ⟨k, by simpa using hk, by rw [decide_eq_false (by omega)]; simp⟩
  rw [this, Bool.and_false, Bool.and_false]
theorem fine_all {x : El} (h1 : 1 ≤ x.id ∧ x.id ≤ 1048576) (h2 : ∀ k, k < 4 → okN (nsP x k) = true) (h3 : ∀ k, k < 4 → (ssP x k).size ≤ 12) : fineB x = true := by
  unfold fineB
  rw [decide_eq_true h1, Bool.true_and, Bool.and_eq_true, List.all_eq_true, List.all_eq_true]
  exact ⟨fun k hk => h2 k (by simpa using hk), fun k hk => decide_eq_true (h3 k (by simpa using hk))⟩
theorem build_n4 (a b c d : Int) (w : World) : (Instr.buildSlice 45 4 #[(0, .int .i64 a), (1, .int .i64 b), (2, .int .i64 c), (3, .int .i64 d)]).run Try.prog w = .ok (.slice (some ⟨w.heap.size, 0, none⟩) 4 4) (w.alloc (.cells [Value.int .i64 a, .int .i64 b, .int .i64 c, .int .i64 d].toArray 3)) := by
  obtain ⟨i0, hi, hz0, hz1, hz2⟩ := info_parts info3p
  refine run_buildSlice (P := Try.prog) w 45 3 4 _ _ i0 _ Try.underlying45 hi hz0 (by rw [hz1]; decide) (by rw [hz1]; decide) ?_
  rw [hz1]
  kernel_rfl
def nsL (x : El) : List Value := [.int .i64 x.par, .int .i64 x.ord, .int .i64 x.frm, .int .i64 x.to]
theorem nsL_at (x : El) (k : Nat) (hk : k < 4) : (nsL x)[k]? = some (.int .i64 (nsP x k)) := by
  rcases (by omega : k = 0 ∨ k = 1 ∨ k = 2 ∨ k = 3) with rfl | rfl | rfl | rfl <;> rfl
/-- The four numbers, the four texts, as new rows. -/
theorem row_n4 (w : World) (x : El) : ∃ B w', (∀ ev op x0 x1 x2 x3, op.op = .buildSlice 45 4 #[(0, x0), (1, x1), (2, x2), (3, x3)] → ev x0 = .int .i64 x.par → ev x1 = .int .i64 x.ord → ev x2 = .int .i64 x.frm → ev x3 = .int .i64 x.to → (execOp ev op).run Try.prog w = .ok (.value (.slice (some ⟨B, 0, none⟩) 4 4)) w') ∧ (∀ k, k < 4 → w'.cell? ⟨B, k, none⟩ = some (.int .i64 (nsP x k))) ∧ Turn (fun _ => False) w w' := by
  have hb := box_alloc w 3 (nsL x)
  refine ⟨w.heap.size, _, fun ev op x0 x1 x2 x3 ho h0 h1 h2 h3 => ?_, fun k hk => hb.cell k _ (nsL_at x k hk), hb.turn⟩
  unfold execOp
  simp only [ho, List.map_toArray, List.map_cons, List.map_nil, h0, h1, h2, h3, Sem.run_bind, Sem.run_pure, build_n4, Result.andThen_ok, nsL]
def allFine (l : List El) : Bool := l.all fineB
theorem allFine_no {l : List El} {k : Nat} (hk : k < l.length) (h : fineB (l.getD k el0) = false) : allFine l = false := by
  unfold allFine
  rw [List.all_eq_false]
  exact ⟨_, getD_mem hk, by rw [h]; simp⟩
theorem allFine_yes {l : List El} (h : ∀ j, j < l.length → fineB (l.getD j el0) = true) : allFine l = true := by
  unfold allFine
  rw [List.all_eq_true]
  intro x hx
  obtain ⟨k, hk, rfl⟩ := mem_at hx
  exact h k hk
def rightE (l : List El) : Bool := decide (l.length ≤ 40) && (risesB l && allFine l)
end Go.Proofs.Ytkciaafkhpjnaaa
namespace Go.Proofs.Ytkciaafkhpjnaaa
set_option maxRecDepth 100000
open Go.RowKit
set_option linter.unusedVariables false
set_option linter.unusedSimpArgs false


def Bytes8 (xs : List Int) : Prop := ∀ x ∈ xs, 0 ≤ x ∧ x ≤ 255
end Go.Proofs.Ytkciaafkhpjnaaa
namespace Go.Proofs.Ytkciaafkhpjnaaa
set_option maxRecDepth 100000
open Go.RowKit
set_option linter.unusedVariables false
set_option linter.unusedSimpArgs false

/-- What an edit is. -/
structure Ed where
  op : Int
  e : El
  f : Int
  on : Int
  os : ByteArray
  nn : Int
  ns : ByteArray
deriving DecidableEq
def mayB (x : Ed) : Bool := decide (x.e.id ≠ 0) && (decide ((x.op = 1 ∨ x.op = 2) ∧ x.f = 0 ∧ (x.on = 0 ∧ x.os = e0) ∧ (x.nn = 0 ∧ x.ns = e0)) || decide (x.op = 3 ∧ x.e = El.at x.e.id) && (fitsB x.f x.on x.os && fitsB x.f x.nn x.ns))
def getE (l : List El) (nr : Int) : Option El := l.find? (fun x => decide (x.id = nr))
def hasB (l : List El) (nr : Int) : Bool := (getE l nr).isSome
def lacksB (l : List El) (nr : Int) : Bool := decide (nr ≠ 0) && !(hasB l nr)
def parB (l : List El) (nr : Int) : Bool := l.any (fun x => decide (x.par = nr))
def cutB (l : List El) (x : Ed) : Bool := lacksB l x.e.par || parB l x.e.id
def oneE (l : List El) (x : Ed) : List El × Int :=
  if risesB l = false then ([], 7) else if mayB x = false then ([], 1) else
  match getE l x.e.id with
  | none => if x.op = 1 then (if cutB l x = true then ([], 14) else (putE l x.e, 0)) else ([], 2)
  | some o => if x.op = 1 then ([], 3) else if x.op = 2 then (if o = x.e then (if cutB l x = true then ([], 14) else (dropE l x.e.id, 0)) else ([], 11))
    else if getN o x.f = x.on ∧ getS o x.f = x.os then (if x.f = 1 ∧ (lacksB l x.on || lacksB l x.nn) = true then ([], 14) else (putE l (setV o x.f x.nn x.ns), 0)) else ([], 11)
def applyFrom (l : List El) : List Ed → Nat → List El × Nat × Int
  | [], _ => (l, 0, 0)
  | x :: xs, k => if (oneE l x).2 = 0 then applyFrom (oneE l x).1 xs (k + 1) else ([], k, (oneE l x).2)
def applyE (l : List El) (xs : List Ed) : List El × Nat × Int := if risesB l = false then ([], 0, 7) else applyFrom l xs 0
def turnE (x : Ed) : Ed := if x.op = 1 then { x with op := 2 } else if x.op = 2 then { x with op := 1 } else { x with on := x.nn, os := x.ns, nn := x.on, ns := x.os }
def invE (xs : List Ed) : List Ed := xs.reverse.map turnE
def KOk (l : List El) : Prop := ∀ y ∈ l, 0 ≤ y.kind ∧ y.kind ≤ 255
def EdOk (x : Ed) : Prop := 0 ≤ x.e.kind ∧ x.e.kind ≤ 255

theorem getE_some {l : List El} {nr : Int} {o : El} (h : getE l nr = some o) : o ∈ l ∧ o.id = nr := by
  unfold getE at h
  exact ⟨List.mem_of_find?_eq_some h, by simpa using List.find?_some h⟩
theorem getE_none {l : List El} {nr : Int} : getE l nr = none ↔ ∀ x ∈ l, x.id ≠ nr := by
  unfold getE; simp
theorem getE_mem {l : List El} (hr : Rises l) {o : El} (h : o ∈ l) : getE l o.id = some o := by
  induction l with
  | nil => cases h
  | cons a l ih =>
    unfold getE
    rw [List.find?_cons]
    have hp := List.pairwise_cons.1 hr
    rcases List.mem_cons.1 h with rfl | h
    · simp
    · have := hp.1 _ h
      rw [show decide (a.id = o.id) = false from decide_eq_false (by omega)]
      exact ih hp.2 h
theorem getE_iff {l : List El} (hr : Rises l) {nr : Int} {o : El} : getE l nr = some o ↔ o ∈ l ∧ o.id = nr :=
  ⟨getE_some, fun h => h.2 ▸ getE_mem hr h.1⟩
theorem rises_ext : ∀ {l m : List El} (hl : Rises l) (hm : Rises m) (h : ∀ x, x ∈ l ↔ x ∈ m), l = m := by
  intro l
  induction l with
  | nil =>
    intro m _ _ h
    cases m with
    | nil => rfl
    | cons b m => exact absurd ((h b).2 (by simp)) (by simp)
  | cons a l ih =>
    intro m hl hm h
    cases m with
    | nil => exact absurd ((h a).1 (by simp)) (by simp)
    | cons b m =>
      have pl := List.pairwise_cons.1 hl
      have pm := List.pairwise_cons.1 hm
      have e : a = b := by
        rcases List.mem_cons.1 ((h a).1 (by simp)) with e | e
        · exact e
        · rcases List.mem_cons.1 ((h b).2 (by simp)) with e2 | e2
          · exact e2.symm
          · have := pm.1 _ e; have := pl.1 _ e2; omega
      subst e
      rw [ih pl.2 pm.2 (fun x => ?_)]
      constructor
      · intro hx
        rcases List.mem_cons.1 ((h x).1 (by simp [hx])) with e | e
        · have := pl.1 _ hx; subst e; omega
        · exact e
      · intro hx
        rcases List.mem_cons.1 ((h x).2 (by simp [hx])) with e | e
        · have := pm.1 _ hx; subst e; omega
        · exact e
theorem mem_put {l : List El} {e x : El} : x ∈ putE l e ↔ x = e ∨ (x ∈ l ∧ x.id ≠ e.id) := by
  unfold putE
  simp only [List.mem_append, List.mem_filter, List.mem_cons, decide_eq_true_eq]
  constructor
  · rintro (⟨h1, h2⟩ | h | ⟨h1, h2⟩)
    · exact .inr ⟨h1, by omega⟩
    · exact .inl h
    · exact .inr ⟨h1, by omega⟩
  · rintro (h | ⟨h1, h2⟩)
    · exact .inr (.inl h)
    · rcases (by omega : x.id < e.id ∨ e.id < x.id) with h | h
      · exact .inl ⟨h1, h⟩
      · exact .inr (.inr ⟨h1, h⟩)
theorem mem_drop {l : List El} {nr : Int} {x : El} : x ∈ dropE l nr ↔ x ∈ l ∧ x.id ≠ nr := by
  unfold dropE; simp
theorem rises_putE {l : List El} (hr : Rises l) (e : El) : Rises (putE l e) := by
  unfold putE Rises
  rw [List.pairwise_append]
  refine ⟨hr.filter _, List.pairwise_cons.2 ⟨fun x hx => ?_, hr.filter _⟩, fun x hx y hy => ?_⟩
  · simpa using (List.mem_filter.1 hx).2
  · have h1 : x.id < e.id := by simpa using (List.mem_filter.1 hx).2
    rcases List.mem_cons.1 hy with rfl | hy
    · exact h1
    · have : e.id < y.id := by simpa using (List.mem_filter.1 hy).2
      omega
theorem rises_dropE {l : List El} (hr : Rises l) (nr : Int) : Rises (dropE l nr) := by
  unfold dropE; exact List.Pairwise.filter _ hr
theorem lacksB_iff {l : List El} {nr : Int} : lacksB l nr = true ↔ nr ≠ 0 ∧ ∀ x ∈ l, x.id ≠ nr := by
  unfold lacksB hasB
  simp only [Bool.and_eq_true, decide_eq_true_eq, Bool.not_eq_true', Option.isSome_eq_false_iff, Option.isNone_iff_eq_none, getE_none]
theorem lacksB_no {l : List El} {nr : Int} : lacksB l nr = false ↔ nr = 0 ∨ ∃ x ∈ l, x.id = nr := by
  rw [← Bool.not_eq_true, lacksB_iff]
  constructor
  · intro h
    by_cases h0 : nr = 0
    · exact .inl h0
    · refine .inr (Classical.byContradiction fun h2 => h ⟨h0, fun x hx e => h2 ⟨x, hx, e⟩⟩)
  · rintro (h | ⟨x, hx, e⟩) ⟨h1, h2⟩
    · exact h1 h
    · exact h2 x hx e
theorem parB_no {l : List El} {nr : Int} : parB l nr = false ↔ ∀ x ∈ l, x.par ≠ nr := by
  unfold parB; simp
theorem set_id (o : El) (f n : Int) (s : ByteArray) : (setV o f n s).id = o.id := by
  unfold setV
  repeat' split
  all_goals rfl
theorem oneE_rises {l d : List El} {x : Ed} (h : oneE l x = (d, 0)) : Rises l ∧ Rises d := by
  unfold oneE at h
  cases hr : risesB l
  · rw [if_pos hr] at h; exact absurd (congrArg (·.2) h) (by simp)
  · have hR := (risesB_iff l).1 hr
    refine ⟨hR, ?_⟩
    rw [if_neg (by simp [hr])] at h
    repeat' split at h
    all_goals first
      | (have e := congrArg (·.1) h; subst e; first | exact rises_putE hR _ | exact rises_dropE hR _)
      | exact absurd (congrArg (·.2) h) (by simp)
theorem putE_ok {l : List El} {e : El} (h : KOk l) (he : 0 ≤ e.kind ∧ e.kind ≤ 255) : KOk (putE l e) := fun y hy => by
  rcases mem_put.1 hy with rfl | ⟨h1, _⟩
  · exact he
  · exact h y h1
theorem dropE_ok {l : List El} {nr : Int} (h : KOk l) : KOk (dropE l nr) := fun y hy => h y (mem_drop.1 hy).1
theorem oneE_ok {l d : List El} {x : Ed} {n : Int} (hk : KOk l) (hx : EdOk x) (h : oneE l x = (d, n)) : KOk d := by
  have nil : KOk [] := fun y hy => by cases hy
  unfold oneE at h
  repeat' split at h
  all_goals (have e := congrArg (·.1) h; subst e)
  all_goals first
    | exact nil
    | exact putE_ok hk hx
    | exact dropE_ok hk
    | (rename_i o ho _ _ _ _; exact putE_ok hk (setV_kind o (hk _ (getE_some ho).1) _ _ _))
theorem putE_lenE (l : List El) (e : El) : (putE l e).length ≤ l.length + 1 := by
  unfold putE
  simp only [List.length_append, List.length_cons]
  have : ∀ l : List El, (l.filter (fun x => decide (x.id < e.id))).length + (l.filter (fun x => decide (e.id < x.id))).length ≤ l.length := by
    intro l
    induction l with
    | nil => simp
    | cons a l ih =>
      simp only [List.filter_cons, List.length_cons]
      repeat' split
      all_goals (simp only [List.length_cons, decide_eq_true_eq] at *; omega)
  have := this l
  omega
theorem oneE_len {l : List El} {x : Ed} : (oneE l x).1.length ≤ l.length + 1 := by
  unfold oneE
  repeat' split
  all_goals first
    | exact Nat.zero_le _
    | exact putE_lenE _ _
    | exact Nat.le_succ_of_le (List.length_filter_le _ _)
theorem fits_get {f n : Int} {s : ByteArray} (h : fitsB f n s = true) (o : El) : getN (setV o f n s) f = n ∧ getS (setV o f n s) f = s := by
  unfold fitsB at h
  simp only [Bool.and_eq_true, decide_eq_true_eq] at h
  obtain ⟨hf, h1, h2⟩ := h
  rcases (by omega : f = 0 ∨ f = 1 ∨ f = 2 ∨ f = 3 ∨ f = 4 ∨ f = 5 ∨ f = 6 ∨ f = 7 ∨ f = 8) with rfl | rfl | rfl | rfl | rfl | rfl | rfl | rfl | rfl
  all_goals exact ⟨h1, h2⟩
theorem set_back {o : El} (hk : 0 ≤ o.kind ∧ o.kind ≤ 255) (f n : Int) (s : ByteArray) : setV (setV o f n s) f (getN o f) (getS o f) = o := by
  by_cases hf : 0 ≤ f ∧ f < 9
  · obtain ⟨a0, a1, a2, a3, a4, a5, a6, a7, a8, a9⟩ := o
    rcases (by omega : f = 0 ∨ f = 1 ∨ f = 2 ∨ f = 3 ∨ f = 4 ∨ f = 5 ∨ f = 6 ∨ f = 7 ∨ f = 8) with rfl | rfl | rfl | rfl | rfl | rfl | rfl | rfl | rfl
    · have : a1 % 256 = a1 := by have := hk.1; have := hk.2; simp only at *; omega
      simp [setV, getN, this]
    all_goals simp [setV, getN, getS]
  · unfold setV
    rw [if_neg (by omega), if_neg (by omega), if_neg (by omega), if_neg (by omega), if_neg (by omega), if_neg (by omega), if_neg (by omega), if_neg (by omega), if_neg (by omega)]
    rw [if_neg (by omega), if_neg (by omega), if_neg (by omega), if_neg (by omega), if_neg (by omega), if_neg (by omega), if_neg (by omega), if_neg (by omega), if_neg (by omega)]
theorem may_turn {x : Ed} (h : mayB x = true) : mayB (turnE x) = true := by
  unfold mayB turnE at *
  simp only [Bool.and_eq_true, Bool.or_eq_true, decide_eq_true_eq] at *
  obtain ⟨h0, h | ⟨⟨h1, h2⟩, h3, h4⟩⟩ := h
  · obtain ⟨h1 | h1, h2⟩ := h
    · rw [if_pos h1]; exact ⟨h0, .inl ⟨.inr rfl, h2⟩⟩
    · rw [if_neg (by omega), if_pos h1]; exact ⟨h0, .inl ⟨.inl rfl, h2⟩⟩
  · rw [if_neg (by omega), if_neg (by omega)]; exact ⟨h0, .inr ⟨⟨h1, h2⟩, h4, h3⟩⟩
theorem turn_id (x : Ed) : (turnE x).e = x.e := by
  unfold turnE; split
  · rfl
  · split <;> rfl
/-- The way back of one edit. -/
theorem one_back {l d : List El} {x : Ed} (hk : KOk l) (h : oneE l x = (d, 0)) : oneE d (turnE x) = (l, 0) := by
  obtain ⟨hR, hD⟩ := oneE_rises h
  have hm : mayB x = true := by
    cases hm : mayB x
    · unfold oneE at h
      rw [if_neg (by simp [(risesB_iff l).2 hR]), if_pos hm] at h
      exact absurd (congrArg (·.2) h) (by simp)
    · rfl
  have ht := may_turn hm
  have hid : x.e.id ≠ 0 := by unfold mayB at hm; simp only [Bool.and_eq_true, decide_eq_true_eq] at hm; exact hm.1
  have hop : x.op = 1 ∨ x.op = 2 ∨ x.op = 3 := by
    unfold mayB at hm; simp only [Bool.and_eq_true, Bool.or_eq_true, decide_eq_true_eq] at hm
    rcases hm.2 with h | h
    · rcases h.1 with h | h
      · exact .inl h
      · exact .inr (.inl h)
    · exact .inr (.inr h.1.1)
  unfold oneE at h ⊢
  rw [if_neg (by simp [(risesB_iff l).2 hR]), if_neg (by simp [hm])] at h
  rw [if_neg (by simp [(risesB_iff d).2 hD]), if_neg (by simp [ht]), turn_id]
  rcases hop with ho | ho | ho
  · have to : (turnE x).op = 2 := by unfold turnE; rw [if_pos ho]
    cases hg : getE l x.e.id with
    | some o => rw [hg] at h; simp only [ho] at h; exact absurd (congrArg (·.2) h) (by simp)
    | none =>
      rw [hg] at h
      simp only [ho] at h
      cases hc : cutB l x
      · rw [if_pos trivial, if_neg (by simp [hc])] at h
        have e : putE l x.e = d := congrArg (·.1) h
        subst e
        unfold cutB at hc
        simp only [Bool.or_eq_false_iff] at hc
        have hn := getE_none.1 hg
        have g : getE (putE l x.e) x.e.id = some x.e := (getE_iff hD).2 ⟨mem_put.2 (.inl rfl), rfl⟩
        rw [g]
        have c2 : cutB (putE l x.e) (turnE x) = false := by
          unfold cutB
          rw [turn_id]
          simp only [Bool.or_eq_false_iff]
          constructor
          · rcases lacksB_no.1 hc.1 with h0 | ⟨y, hy, hi⟩
            · exact lacksB_no.2 (.inl h0)
            · exact lacksB_no.2 (.inr ⟨y, mem_put.2 (.inr ⟨hy, hn y hy⟩), hi⟩)
          · refine parB_no.2 fun y hy => ?_
            rcases mem_put.1 hy with rfl | ⟨hy, _⟩
            · rcases lacksB_no.1 hc.1 with h0 | ⟨y, hy, hi⟩
              · omega
              · have := hn y hy; omega
            · exact parB_no.1 hc.2 y hy
        simp only [to, c2]
        rw [if_neg (by decide), if_pos trivial, if_pos trivial, if_neg (by decide)]
        refine Prod.ext (rises_ext (rises_dropE hD _) hR fun y => ?_) rfl
        rw [mem_drop, mem_put]
        constructor
        · rintro ⟨rfl | h1, h2⟩
          · exact absurd rfl h2
          · exact h1.1
        · intro hy; exact ⟨.inr ⟨hy, hn y hy⟩, hn y hy⟩
      · rw [if_pos trivial, if_pos hc] at h; exact absurd (congrArg (·.2) h) (by simp)
  · have to : (turnE x).op = 1 := by unfold turnE; rw [if_neg (by omega), if_pos ho]
    cases hg : getE l x.e.id with
    | none => rw [hg] at h; simp only [ho] at h; exact absurd (congrArg (·.2) h) (by simp)
    | some o =>
      rw [hg] at h
      simp only [ho] at h
      rw [if_neg (by decide), if_pos trivial] at h
      by_cases he : o = x.e
      · subst he
        cases hc : cutB l x
        · rw [if_pos rfl, if_neg (by simp [hc])] at h
          have e : dropE l x.e.id = d := congrArg (·.1) h
          subst e
          unfold cutB at hc
          simp only [Bool.or_eq_false_iff] at hc
          have g : getE (dropE l x.e.id) x.e.id = none := getE_none.2 fun y hy => (mem_drop.1 hy).2
          rw [g]
          have hp : x.e.par ≠ x.e.id := parB_no.1 hc.2 _ (getE_some hg).1
          have c2 : cutB (dropE l x.e.id) (turnE x) = false := by
            unfold cutB
            rw [turn_id]
            simp only [Bool.or_eq_false_iff]
            constructor
            · rcases lacksB_no.1 hc.1 with h0 | ⟨y, hy, hi⟩
              · exact lacksB_no.2 (.inl h0)
              · exact lacksB_no.2 (.inr ⟨y, mem_drop.2 ⟨hy, by omega⟩, hi⟩)
            · exact parB_no.2 fun y hy => parB_no.1 hc.2 y (mem_drop.1 hy).1
          simp only [to, c2]
          rw [if_pos trivial, if_neg (by decide)]
          refine Prod.ext (rises_ext (rises_putE hD _) hR fun y => ?_) rfl
          rw [mem_put, mem_drop]
          constructor
          · rintro (rfl | h1)
            · exact (getE_some hg).1
            · exact h1.1.1
          · intro hy
            by_cases e : y.id = x.e.id
            · refine .inl ?_
              have h1 := getE_mem hR hy
              rw [e, hg] at h1
              exact (Option.some.inj h1).symm
            · exact .inr ⟨⟨hy, e⟩, e⟩
        · rw [if_pos rfl, if_pos hc] at h; exact absurd (congrArg (·.2) h) (by simp)
      · rw [if_neg he] at h; exact absurd (congrArg (·.2) h) (by simp)
  · have te : turnE x = { x with on := x.nn, os := x.ns, nn := x.on, ns := x.os } := by unfold turnE; rw [if_neg (by omega), if_neg (by omega)]
    rw [te]
    have hft : fitsB x.f x.nn x.ns = true := by
      unfold mayB at hm; simp only [Bool.and_eq_true, Bool.or_eq_true, decide_eq_true_eq] at hm
      rcases hm.2 with h | h
      · rcases h.1 with h | h <;> omega
      · exact h.2.2
    cases hg : getE l x.e.id with
    | none => rw [hg] at h; simp only [ho] at h; exact absurd (congrArg (·.2) h) (by simp)
    | some o =>
      rw [hg] at h
      simp only [ho] at h ⊢
      rw [if_neg (by decide), if_neg (by decide)] at h
      by_cases hs : getN o x.f = x.on ∧ getS o x.f = x.os
      · rw [if_pos hs] at h
        by_cases hc : x.f = 1 ∧ (lacksB l x.on || lacksB l x.nn) = true
        · rw [if_pos hc] at h; exact absurd (congrArg (·.2) h) (by simp)
        · rw [if_neg hc] at h
          have e : putE l (setV o x.f x.nn x.ns) = d := congrArg (·.1) h
          subst e
          obtain ⟨hol, hoi⟩ := getE_some hg
          have hsi : (setV o x.f x.nn x.ns).id = x.e.id := by rw [set_id, hoi]
          have g : getE (putE l (setV o x.f x.nn x.ns)) x.e.id = some (setV o x.f x.nn x.ns) := (getE_iff hD).2 ⟨mem_put.2 (.inl rfl), hsi⟩
          rw [g]
          have fg := fits_get hft o
          have lk : ∀ nr, lacksB (putE l (setV o x.f x.nn x.ns)) nr = lacksB l nr := fun nr => by
            cases hl : lacksB l nr
            · refine lacksB_no.2 ?_
              rcases lacksB_no.1 hl with h0 | ⟨y, hy, hi⟩
              · exact .inl h0
              · by_cases e : y.id = x.e.id
                · exact .inr ⟨_, mem_put.2 (.inl rfl), by rw [hsi]; omega⟩
                · exact .inr ⟨y, mem_put.2 (.inr ⟨hy, by rw [hsi]; exact e⟩), hi⟩
            · obtain ⟨h0, h1⟩ := lacksB_iff.1 hl
              refine lacksB_iff.2 ⟨h0, fun y hy => ?_⟩
              rcases mem_put.1 hy with rfl | ⟨hy, _⟩
              · rw [hsi, ← hoi]; exact h1 o hol
              · exact h1 y hy
          simp only [lk]
          rw [if_neg (by decide), if_neg (by decide), if_pos fg, if_neg (by rw [Bool.or_comm]; exact hc)]
          have sb : setV (setV o x.f x.nn x.ns) x.f x.on x.os = o := by rw [← hs.1, ← hs.2]; exact set_back (hk o hol) _ _ _
          rw [sb]
          refine Prod.ext (rises_ext (rises_putE hD _) hR fun y => ?_) rfl
          rw [mem_put, mem_put, hoi, hsi]
          constructor
          · rintro (rfl | ⟨rfl | h1, h2⟩)
            · exact hol
            · exact absurd hsi h2
            · exact h1.1
          · intro hy
            by_cases e : y.id = x.e.id
            · refine .inl ?_
              have h1 := getE_mem hR hy
              rw [e, hg] at h1
              exact (Option.some.inj h1).symm
            · exact .inr ⟨.inr ⟨hy, e⟩, e⟩
      · rw [if_neg hs] at h; exact absurd (congrArg (·.2) h) (by simp)
theorem oneE_fst {l : List El} {x : Ed} (h : (oneE l x).2 = 0) : oneE l x = ((oneE l x).1, 0) := Prod.ext rfl h
theorem apply_app {l m : List El} {b : List Ed} : ∀ {a : List Ed} {l : List El} {k : Nat}, applyFrom l a k = (m, 0, 0) → applyFrom l (a ++ b) k = applyFrom m b (k + a.length) := by
  intro a
  induction a with
  | nil => intro l k h; have : l = m := congrArg (·.1) h; subst this; rfl
  | cons x a ih =>
    intro l k h
    simp only [applyFrom, List.cons_append] at h ⊢
    by_cases h0 : (oneE l x).2 = 0
    · rw [if_pos h0] at h ⊢
      rw [ih h, List.length_cons]
      congr 1; omega
    · rw [if_neg h0] at h
      exact absurd (congrArg (·.2.2) h) h0
theorem apply_back : ∀ {xs : List Ed} {l d : List El} {k : Nat} (j : Nat), KOk l → (∀ x ∈ xs, EdOk x) → applyFrom l xs k = (d, 0, 0) → applyFrom d (invE xs) j = (l, 0, 0) := by
  intro xs
  induction xs with
  | nil => intro l d k j _ _ h; have : l = d := congrArg (·.1) h; subst this; rfl
  | cons x xs ih =>
    intro l d k j hk hx h
    simp only [applyFrom] at h
    by_cases h0 : (oneE l x).2 = 0
    · rw [if_pos h0] at h
      have e1 := oneE_fst h0
      have := ih j (oneE_ok hk (hx x (by simp)) e1) (fun y hy => hx y (by simp [hy])) h
      have hi : invE (x :: xs) = invE xs ++ [turnE x] := by simp [invE]
      rw [hi, apply_app (l := d) this]
      have ob := one_back hk e1
      simp [applyFrom, ob]
    · rw [if_neg h0] at h
      exact absurd (congrArg (·.2.2) h) h0
theorem apply_rises : ∀ {xs : List Ed} {l d : List El} {k : Nat}, Rises l → applyFrom l xs k = (d, 0, 0) → Rises d := by
  intro xs
  induction xs with
  | nil => intro l d k hr h; have : l = d := congrArg (·.1) h; subst this; exact hr
  | cons x xs ih =>
    intro l d k hr h
    simp only [applyFrom] at h
    by_cases h0 : (oneE l x).2 = 0
    · rw [if_pos h0] at h
      exact ih (oneE_rises (oneE_fst h0)).2 h
    · rw [if_neg h0] at h
      exact absurd (congrArg (·.2.2) h) h0
/-- THE WAY BACK. -/
theorem way_back {l d : List El} {xs : List Ed} {k : Nat} (hk : KOk l) (hx : ∀ x ∈ xs, EdOk x) (h : applyE l xs = (d, k, 0)) : applyE d (invE xs) = (l, 0, 0) ∧ k = 0 := by
  unfold applyE at h ⊢
  cases hr : risesB l
  · rw [if_pos hr] at h; exact absurd (congrArg (·.2.2) h) (by simp)
  · rw [if_neg (by simp [hr])] at h
    have hk0 : ∀ {xs : List Ed} {l d : List El} {j k : Nat}, applyFrom l xs j = (d, k, 0) → k = 0 := by
      intro xs
      induction xs with
      | nil => intro l d j k h; exact (congrArg (·.2.1) h).symm
      | cons x xs ih =>
        intro l d j k h
        simp only [applyFrom] at h
        by_cases h0 : (oneE l x).2 = 0
        · rw [if_pos h0] at h; exact ih h
        · rw [if_neg h0] at h; exact absurd (congrArg (·.2.2) h) h0
    have e := hk0 h
    subst e
    rw [if_neg (by simp [(risesB_iff d).2 (apply_rises ((risesB_iff l).1 hr) h)])]
    exact ⟨apply_back 0 hk hx h, rfl⟩
theorem apply_nil {l d : List El} {xs : List Ed} {k : Nat} {e : Int} (h : applyE l xs = (d, k, e)) (he : e ≠ 0) : d = [] := by
  have main : ∀ {xs : List Ed} {l : List El} {j : Nat}, applyFrom l xs j = (d, k, e) → d = [] := by
    intro xs
    induction xs with
    | nil => intro l j h; exact absurd (congrArg (·.2.2) h).symm he
    | cons x xs ih =>
      intro l j h
      simp only [applyFrom] at h
      by_cases h0 : (oneE l x).2 = 0
      · rw [if_pos h0] at h; exact ih h
      · rw [if_neg h0] at h; exact (congrArg (·.1) h).symm
  unfold applyE at h
  split at h
  · exact (congrArg (·.1) h).symm
  · exact main h

end Go.Proofs.Ytkciaafkhpjnaaa
namespace Go.Proofs.Ytkciaafkhpjnaaa
set_option maxRecDepth 100000
open Go.RowKit
set_option linter.unusedVariables false
set_option linter.unusedSimpArgs false

theorem hasB_iff {l : List El} {nr : Int} : hasB l nr = true ↔ ∃ x ∈ l, x.id = nr := by
  unfold hasB
  rw [Option.isSome_iff_exists]
  constructor
  · rintro ⟨x, h⟩; exact ⟨x, getE_some h⟩
  · rintro ⟨x, h1, h2⟩
    cases hg : getE l nr with
    | some y => exact ⟨y, rfl⟩
    | none => exact absurd h2 (getE_none.1 hg x h1)
theorem hasB_no {l : List El} {nr : Int} : hasB l nr = false ↔ ∀ x ∈ l, x.id ≠ nr := by
  rw [← Bool.not_eq_true, hasB_iff]
  constructor
  · intro h x hx e; exact h ⟨x, hx, e⟩
  · rintro h ⟨x, hx, e⟩; exact h x hx e
theorem hasB_app (a b : List El) (nr : Int) : hasB (a ++ b) nr = (hasB a nr || hasB b nr) := by
  rw [Bool.eq_iff_iff, Bool.or_eq_true, hasB_iff, hasB_iff, hasB_iff]
  constructor
  · rintro ⟨x, hx, e⟩
    rcases List.mem_append.1 hx with h | h
    · exact .inl ⟨x, h, e⟩
    · exact .inr ⟨x, h, e⟩
  · rintro (⟨x, hx, e⟩ | ⟨x, hx, e⟩)
    · exact ⟨x, List.mem_append.2 (.inl hx), e⟩
    · exact ⟨x, List.mem_append.2 (.inr hx), e⟩
theorem hasB_one (x : El) (nr : Int) : hasB [x] nr = decide (x.id = nr) := by
  rw [Bool.eq_iff_iff, hasB_iff]; simp
/-- The order in which elements are taken. -/
def stepO (w out : List El) (e : El) : List El := if (hasB w e.id || hasB out e.id) = true then out else if (decide (e.par = 0) || hasB w e.par || hasB out e.par) = true then out ++ [e] else out
def passO (w c out : List El) : List El := c.foldl (stepO w) out
def roundsO (w c : List El) : Nat → List El
  | 0 => []
  | n + 1 => passO w c (roundsO w c n)
def ordE (c w : List El) : List El := roundsO w c (c.length + 1)
def ordOk (c w : List El) : Bool := c.all (fun e => hasB w e.id || hasB (ordE c w) e.id)
/-- Each of c, not in w, once, what it stands in ahead of it. -/
def TakeC (c w p : List El) (e : El) : Prop := e ∈ c ∧ hasB w e.id = false ∧ hasB p e.id = false ∧ (e.par = 0 ∨ hasB w e.par = true ∨ hasB p e.par = true)
def OrdF (c w : List El) : List El → List El → Prop
  | _, [] => True
  | p, e :: q => TakeC c w p e ∧ OrdF c w (p ++ [e]) q
theorem OrdF.snoc {c w : List El} {e : El} : ∀ {q p : List El}, OrdF c w p (q ++ [e]) ↔ OrdF c w p q ∧ TakeC c w (p ++ q) e := by
  intro q
  induction q with
  | nil => intro p; simp [OrdF]
  | cons x q ih =>
    intro p
    simp only [List.cons_append, OrdF]
    rw [ih, and_assoc, List.append_assoc]
    rfl
theorem step_ord {c w out : List El} {e : El} (h : OrdF c w [] out) (he : e ∈ c) : OrdF c w [] (stepO w out e) := by
  unfold stepO
  split
  · exact h
  · split
    · rename_i h1 h2
      refine OrdF.snoc.2 ⟨h, he, ?_, ?_, ?_⟩
      · cases hw : hasB w e.id
        · rfl
        · rw [hw] at h1; simp at h1
      · rw [List.nil_append]
        cases hw : hasB out e.id
        · rfl
        · rw [hw] at h1; simp at h1
      · rw [List.nil_append]
        simp only [Bool.or_eq_true, decide_eq_true_eq] at h2
        rcases h2 with (h2 | h2) | h2
        · exact .inl h2
        · exact .inr (.inl h2)
        · exact .inr (.inr h2)
    · exact h
theorem fold_ord {c w : List El} : ∀ {l out : List El}, (∀ e ∈ l, e ∈ c) → OrdF c w [] out → OrdF c w [] (l.foldl (stepO w) out) := by
  intro l
  induction l with
  | nil => intro out _ h; exact h
  | cons a l ih => intro out hl h; exact ih (fun e he => hl e (by simp [he])) (step_ord h (hl a (by simp)))
theorem rounds_ord (w c : List El) : ∀ n, OrdF c w [] (roundsO w c n)
  | 0 => trivial
  | n + 1 => fold_ord (fun _ h => h) (rounds_ord w c n)
theorem ord_ord (c w : List El) : OrdF c w [] (ordE c w) := rounds_ord w c _
theorem OrdF.mem {c w : List El} : ∀ {q p : List El}, OrdF c w p q → ∀ x ∈ q, x ∈ c ∧ hasB w x.id = false ∧ hasB p x.id = false := by
  intro q
  induction q with
  | nil => intro p _ x hx; cases hx
  | cons e q ih =>
    intro p h x hx
    rcases List.mem_cons.1 hx with rfl | hx
    · exact ⟨h.1.1, h.1.2.1, h.1.2.2.1⟩
    · obtain ⟨h1, h2, h3⟩ := ih h.2 x hx
      rw [hasB_app, Bool.or_eq_false_iff] at h3
      exact ⟨h1, h2, h3.1⟩
theorem step_has {w out : List El} {e : El} {nr : Int} (h : hasB out nr = true) : hasB (stepO w out e) nr = true := by
  unfold stepO
  split
  · exact h
  · split
    · rw [hasB_app, h, Bool.true_or]
    · exact h
theorem fold_has {w : List El} {nr : Int} : ∀ {l out : List El}, hasB out nr = true → hasB (l.foldl (stepO w) out) nr = true := by
  intro l
  induction l with
  | nil => intro out h; exact h
  | cons a l ih => intro out h; exact ih (step_has h)
/-- What is left. -/
def untB (w out : List El) (e : El) : Bool := !(hasB w e.id || hasB out e.id)
def leftN (w c out : List El) : Nat := (c.filter (untB w out)).length
theorem filter_le {p q : El → Bool} : ∀ (c : List El), (∀ e ∈ c, q e = true → p e = true) → (c.filter q).length ≤ (c.filter p).length := by
  intro c
  induction c with
  | nil => intro _; simp
  | cons a c ih =>
    intro h
    have := ih (fun e he => h e (by simp [he]))
    simp only [List.filter_cons]
    by_cases hq : q a = true
    · rw [if_pos hq, if_pos (h a (by simp) hq)]; simpa using this
    · rw [if_neg hq]
      split
      · simp only [List.length_cons]; omega
      · exact this
theorem filter_lt {p q : El → Bool} {x : El} : ∀ (c : List El), (∀ e ∈ c, q e = true → p e = true) → x ∈ c → p x = true → q x = false → (c.filter q).length < (c.filter p).length := by
  intro c
  induction c with
  | nil => intro _ h; cases h
  | cons a c ih =>
    intro h hx hp hq
    have hle := filter_le c (fun e he => h e (by simp [he]))
    simp only [List.filter_cons]
    rcases List.mem_cons.1 hx with rfl | hx
    · rw [if_neg (by simp [hq]), if_pos hp]; simp only [List.length_cons]; omega
    · have := ih (fun e he => h e (by simp [he])) hx hp hq
      by_cases hqa : q a = true
      · rw [if_pos hqa, if_pos (h a (by simp) hqa)]; simpa using this
      · rw [if_neg hqa]
        split
        · simp only [List.length_cons]; omega
        · exact this
theorem unt_mono {w out out' : List El} (h : ∀ nr, hasB out nr = true → hasB out' nr = true) (e : El) : untB w out' e = true → untB w out e = true := by
  unfold untB
  intro h1
  cases hw : hasB w e.id
  · cases ho : hasB out e.id
    · rfl
    · rw [hw, h _ ho] at h1; simp at h1
  · rw [hw] at h1; simp at h1
/-- One that can be taken is taken in a pass. -/
theorem fold_takes {w : List El} {e : El} : ∀ {l out : List El}, e ∈ l → (e.par = 0 ∨ hasB w e.par = true ∨ hasB out e.par = true) → untB w (l.foldl (stepO w) out) e = false := by
  intro l
  induction l with
  | nil => intro out h; cases h
  | cons a l ih =>
    intro out h hp
    simp only [List.foldl_cons]
    rcases List.mem_cons.1 h with rfl | h
    · have : (hasB w e.id || hasB (stepO w out e) e.id) = true := by
        unfold stepO
        split
        · rename_i h1; exact h1
        · rw [if_pos (by simp only [Bool.or_eq_true, decide_eq_true_eq]; rcases hp with h | h | h <;> simp [h]), hasB_app, hasB_one]
          simp
      unfold untB
      rw [Bool.or_eq_true] at this
      rcases this with h1 | h1
      · rw [h1]; rfl
      · rw [fold_has h1]; simp
    · exact ih h (hp.imp id (fun h => h.imp id step_has))
theorem pass_less {w c out : List El} {e : El} (he : e ∈ c) (hu : untB w out e = true) (hp : e.par = 0 ∨ hasB w e.par = true ∨ hasB out e.par = true) : leftN w c (passO w c out) < leftN w c out :=
  filter_lt c (fun e _ h => unt_mono (fun nr h => fold_has h) e h) he hu (fold_takes he hp)
theorem left_le (w c : List El) (h : ∀ out, 0 < leftN w c out → ∃ e ∈ c, untB w out e = true ∧ (e.par = 0 ∨ hasB w e.par = true ∨ hasB out e.par = true)) : ∀ n, leftN w c (roundsO w c n) = 0 ∨ leftN w c (roundsO w c n) + n ≤ c.length := by
  intro n
  induction n with
  | zero => exact .inr (List.length_filter_le _ _)
  | succ n ih =>
    have hm : leftN w c (roundsO w c (n + 1)) ≤ leftN w c (roundsO w c n) := filter_le c (fun e _ h => unt_mono (fun nr h => fold_has h) e h)
    by_cases h0 : leftN w c (roundsO w c n) = 0
    · exact .inl (by omega)
    · obtain ⟨e, h1, h2, h3⟩ := h (roundsO w c n) (by omega)
      have : leftN w c (roundsO w c (n + 1)) < leftN w c (roundsO w c n) := pass_less h1 h2 h3
      rcases ih with ih | ih
      · exact absurd ih h0
      · exact .inr (by omega)
theorem left_zero {w c out : List El} (h : leftN w c out = 0) : ∀ e ∈ c, (hasB w e.id || hasB out e.id) = true := fun e he => by
  have := List.eq_nil_of_length_eq_zero h
  rw [List.filter_eq_nil_iff] at this
  have := this e he
  unfold untB at this
  cases hw : (hasB w e.id || hasB out e.id)
  · rw [hw] at this; exact absurd rfl this
  · rfl
theorem ord_ok {w c : List El} (h : ∀ out, 0 < leftN w c out → ∃ e ∈ c, untB w out e = true ∧ (e.par = 0 ∨ hasB w e.par = true ∨ hasB out e.par = true)) : ordOk c w = true := by
  unfold ordOk
  rw [List.all_eq_true]
  rcases left_le w c h (c.length + 1) with h0 | h0
  · exact left_zero h0
  · omega
/-- Rings. -/
def ringG (l : List El) (id : Int) : Nat → Int → Bool
  | 0, _ => false
  | m + 1, a => if a = id then true else match getE l a with
    | none => false
    | some y => ringG l id m y.par
def reachG (c : List El) : Nat → El → El → Prop
  | 0, v, e => v = e
  | m + 1, v, e => ∃ p, getE c v.par = some p ∧ reachG c m p e
theorem reach_snoc {c : List El} {e p : El} (hp : getE c e.par = some p) : ∀ {m : Nat} {v : El}, reachG c m v e → reachG c (m + 1) v p := by
  intro m
  induction m with
  | zero => intro v h; have h : v = e := h; subst h; exact ⟨p, hp, rfl⟩
  | succ m ih => intro v h; obtain ⟨q, h1, h2⟩ := h; exact ⟨q, h1, ih h2⟩
theorem reach_ring {c : List El} {e : El} {id : Int} (he : e.par = id) : ∀ {m : Nat} {x : El}, reachG c m x e → ringG c id (m + 1) x.par = true := by
  intro m
  induction m with
  | zero => intro x h; have h : x = e := h; subst h; simp [ringG, he]
  | succ m ih =>
    intro x h
    obtain ⟨q, h1, h2⟩ := h
    rw [ringG]
    split
    · rfl
    · rw [h1]; exact ih h2
theorem ring_mono {c : List El} {id : Int} : ∀ {m n : Nat} {a : Int}, m ≤ n → ringG c id m a = true → ringG c id n a = true := by
  intro m
  induction m with
  | zero => intro n a _ h; cases h
  | succ m ih =>
    intro n a hmn h
    obtain ⟨n, rfl⟩ : ∃ k, n = k + 1 := ⟨n - 1, by omega⟩
    rw [ringG] at h ⊢
    split at h
    · rename_i h1; rw [if_pos h1]
    · rename_i h1
      rw [if_neg h1]
      split at h
      · cases h
      · exact ih (by omega) h
theorem chain_no {c : List El} {U : El → Prop} (hU : ∀ e, U e → e ∈ c ∧ ∃ p, U p ∧ getE c e.par = some p) (hr : ∀ e ∈ c, ringG c e.id c.length e.par = false) :
    ∀ (n : Nat) (V : List El) (e : El), (c.filter (fun x => !decide (x ∈ V))).length ≤ n → V.length + n ≤ c.length → U e → (∀ v ∈ V, ∃ m, m < V.length ∧ reachG c m v e) → False := by
  intro n
  induction n with
  | zero =>
    intro V e hf hl hu hv
    obtain ⟨he, p, hup, hp⟩ := hU e hu
    obtain ⟨hpc, hpi⟩ := getE_some hp
    by_cases hpv : p ∈ V
    · obtain ⟨m, hm, hre⟩ := hv p hpv
      have h1 := ring_mono (n := c.length) (by omega) (reach_ring (id := p.id) hpi.symm hre)
      rw [hr p hpc] at h1; cases h1
    · have : 0 < (c.filter (fun x => !decide (x ∈ V))).length := List.length_pos_of_mem (List.mem_filter.2 ⟨hpc, by simp [hpv]⟩)
      omega
  | succ n ih =>
    intro V e hf hl hu hv
    obtain ⟨he, p, hup, hp⟩ := hU e hu
    obtain ⟨hpc, hpi⟩ := getE_some hp
    by_cases hpv : p ∈ V
    · obtain ⟨m, hm, hre⟩ := hv p hpv
      have h1 := ring_mono (n := c.length) (by omega) (reach_ring (id := p.id) hpi.symm hre)
      rw [hr p hpc] at h1; cases h1
    · refine ih (p :: V) p ?_ (by simp only [List.length_cons]; omega) hup (fun v hv' => ?_)
      · have : (c.filter (fun x => !decide (x ∈ p :: V))).length < (c.filter (fun x => !decide (x ∈ V))).length := filter_lt c (fun x _ h => by simp at h ⊢; exact h.2) hpc (by simp [hpv]) (by simp)
        omega
      · rcases List.mem_cons.1 hv' with rfl | hv'
        · exact ⟨0, by simp, rfl⟩
        · obtain ⟨m, hm, hre⟩ := hv v hv'
          exact ⟨m + 1, by simp only [List.length_cons]; omega, reach_snoc hp hre⟩
/-- A chart that keeps the rules, as far as it matters here. -/
structure GoodD (c : List El) : Prop where
  rises : Rises c
  id : ∀ e ∈ c, e.id ≠ 0
  par : ∀ e ∈ c, e.par = 0 ∨ hasB c e.par = true
  ring : ∀ e ∈ c, ringG c e.id c.length e.par = false
  kind : KOk c
theorem ord_good {c : List El} (h : GoodD c) (w : List El) : ordOk c w = true := by
  refine ord_ok (fun out hl => ?_)
  refine Classical.byContradiction fun hno => ?_
  obtain ⟨e, he⟩ := List.exists_mem_of_length_pos hl
  obtain ⟨hec, heu⟩ := List.mem_filter.1 he
  have hU : ∀ e, (e ∈ c ∧ untB w out e = true) → e ∈ c ∧ ∃ p, (p ∈ c ∧ untB w out p = true) ∧ getE c e.par = some p := by
    rintro e ⟨h1, h2⟩
    refine ⟨h1, ?_⟩
    have hp : ¬ (e.par = 0 ∨ hasB w e.par = true ∨ hasB out e.par = true) := fun hp => hno ⟨e, h1, h2, hp⟩
    rcases h.par e h1 with h3 | h3
    · exact absurd (.inl h3) hp
    · obtain ⟨p, hpc, hpi⟩ := hasB_iff.1 h3
      refine ⟨p, ⟨hpc, ?_⟩, (getE_iff h.rises).2 ⟨hpc, hpi⟩⟩
      unfold untB
      rw [hpi]
      cases hw : hasB w e.par
      · cases ho : hasB out e.par
        · rfl
        · exact absurd (.inr (.inr ho)) hp
      · exact absurd (.inr (.inl hw)) hp
  refine chain_no hU h.ring (c.length - 1) [e] e ?_ ?_ ⟨hec, heu⟩ (fun v hv => ⟨0, by simp, by rw [List.mem_singleton.1 hv]; rfl⟩)
  · have : (c.filter (fun x => !decide (x ∈ [e]))).length < (c.filter (fun _ => true)).length := filter_lt c (fun _ _ _ => rfl) hec rfl (by simp)
    have h2 : (c.filter (fun _ => true)).length = c.length := by simp
    omega
  · have := List.length_pos_of_mem hec
    simp; omega

end Go.Proofs.Ytkciaafkhpjnaaa
namespace Go.Proofs.Ytkciaafkhpjnaaa
set_option maxRecDepth 100000
open Go.RowKit
set_option linter.unusedVariables false
set_option linter.unusedSimpArgs false

def Ed.vals (x : Ed) : List Value := .int .u8 x.op :: (x.e.vals ++ (.int .i64 x.f :: (vl x.on x.os ++ vl x.nn x.ns)))
def ed0 : Ed := ⟨0, el0, 0, 0, e0, 0, e0⟩
theorem Ed.vlen (x : Ed) : x.vals.length = 16 := rfl
theorem vl_one' (n : Int) (s : ByteArray) : ∀ v ∈ vl n s, v.oneCell' = true := fun v hv => by
  simp only [vl, List.mem_cons, List.not_mem_nil, or_false] at hv
  rcases hv with rfl | rfl <;> rfl
theorem Ed.vals_one (x : Ed) : ∀ v ∈ x.vals, v.oneCell' = true := fun v hv => by
  unfold Ed.vals at hv
  rcases List.mem_cons.1 hv with rfl | hv
  · rfl
  · rcases List.mem_append.1 hv with hv | hv
    · exact x.e.vals_one v hv
    · rcases List.mem_cons.1 hv with rfl | hv
      · rfl
      · rcases List.mem_append.1 hv with hv | hv <;> exact vl_one' _ _ v hv
/-- An edit that is one of the language's. -/
structure Ed.Ok (x : Ed) : Prop where
  op : 0 ≤ x.op ∧ x.op ≤ 255
  e : x.e.Ok
  f : I64 x.f
  on : I64 x.on
  nn : I64 x.nn
def edsV (l : List Ed) : List Value := l.flatMap Ed.vals
theorem edsV_len (l : List Ed) : (edsV l).length = 16 * l.length := by
  induction l with
  | nil => rfl
  | cons o l ih =>
    simp only [edsV, List.flatMap_cons, List.length_append, List.length_cons] at ih ⊢
    rw [ih, o.vlen]; omega
theorem edsV_app (a b : List Ed) : edsV (a ++ b) = edsV a ++ edsV b := by simp [edsV]
theorem edsV_one (rs : List Ed) : ∀ v ∈ edsV rs, v.oneCell' = true := fun v hv => by
  simp only [edsV, List.mem_flatMap] at hv
  obtain ⟨o, _, h⟩ := hv
  exact o.vals_one v h
theorem edsV_part : ∀ (l : List Ed) (k : Nat), k < l.length → ((edsV l).drop (k * 16)).take 16 = (l.getD k ed0).vals := by
  intro l
  induction l with
  | nil => intro k hk; simp at hk
  | cons o l ih =>
    intro k hk
    have h1 := o.vlen
    cases k with
    | zero =>
      simp only [edsV, List.flatMap_cons, Nat.zero_mul, List.drop_zero, List.getD_cons_zero]
      rw [List.take_append_of_le_length (by omega), List.take_of_length_le (by omega)]
    | succ k =>
      have := ih k (by simpa using hk)
      simp only [edsV, List.flatMap_cons, List.getD_cons_succ] at this ⊢
      rw [← this, List.drop_append, h1, List.drop_of_length_le (by omega), List.nil_append]
      congr 2
      omega
theorem edsV_set : ∀ (l : List Ed) (o : Ed) (k : Nat), k < l.length → edsV (l.set k o) = (edsV l).take (k * 16) ++ o.vals ++ (edsV l).drop (k * 16 + 16) := by
  intro l o
  induction l with
  | nil => intro k hk; simp at hk
  | cons x l ih =>
    intro k hk
    have h1 := x.vlen
    cases k with
    | zero =>
      simp only [List.set_cons_zero, edsV, List.flatMap_cons, Nat.zero_mul, List.take_zero, List.nil_append, Nat.zero_add]
      rw [List.drop_append, List.drop_of_length_le (by omega), h1]
      simp
    | succ k =>
      have := ih k (by simpa using hk)
      simp only [List.set_cons_succ, edsV, List.flatMap_cons] at this ⊢
      rw [this, List.take_append, List.drop_append, h1, List.take_of_length_le (show x.vals.length ≤ (k + 1) * 16 by omega), List.drop_of_length_le (show x.vals.length ≤ (k + 1) * 16 + 16 by omega)]
      rw [show (k + 1) * 16 - 16 = k * 16 by omega, show (k + 1) * 16 + 16 - 16 = k * 16 + 16 by omega]
      simp
theorem ed_info : (Try.prog.info? 53).map (·.size) = some 16 := by kernel_rfl
theorem ed_infop : (Try.prog.info? 53).map (fun i => (i.zero, i.size, i.bytes)) = some (some (.agg ed0.vals.toArray), 16, 176) := by kernel_rfl
theorem ed_zero (w : World) : (zeroValue 53).run Try.prog w = .ok (.agg ed0.vals.toArray) w := by kernel_rfl
/-- A row of elements as a value. -/
def EdV (w : World) (v : Value) (l : List Ed) : Prop :=
  (v = .slice none 0 0 ∧ l = []) ∨ ∃ g o c, v = .slice (some ⟨g, o, none⟩) l.length c ∧ l.length ≤ c ∧ (0 < l.length → g < w.heap.size) ∧ ∀ k, k < l.length → w.rangeAt g (o + k * 16) (l.getD k ed0).vals
theorem EdV.turn {w w' : World} {v : Value} {l : List Ed} {G : Nat → Prop} (h : EdV w v l) (t : Turn G w w') (hn : ∀ q, v.ownBlock = some q → ¬ G q) : EdV w' v l := by
  rcases h with ⟨h1, h2⟩ | ⟨g, o, c, h1, h2, h3, h4⟩
  · exact .inl ⟨h1, h2⟩
  · exact .inr ⟨g, o, c, h1, h2, fun h0 => Nat.lt_of_lt_of_le (h3 h0) t.size, fun k hk => rangeAt_turn (h4 k hk) t (hn g (by rw [h1]; rfl))⟩
theorem EdV.form {w : World} {v : Value} {l : List Ed} (h : EdV w v l) : ∃ a c, v = .slice a l.length c := by
  rcases h with ⟨h1, rfl⟩ | ⟨g, o, c, h1, _⟩
  · exact ⟨_, _, h1⟩
  · exact ⟨_, _, h1⟩
theorem EdV.one {w : World} {a : Option Addr} {n c : Nat} {l : List Ed} (h : EdV w (.slice a n c) l) (hn : l.length = n) (k : Nat) (hk : k < n) : ∃ g o, a = some ⟨g, o, none⟩ ∧ n ≤ c ∧ w.rangeAt g (o + k * 16) (l.getD k ed0).vals := by
  subst hn
  rcases h with ⟨h1, rfl⟩ | ⟨g, o, c', h1, h2, h3, h4⟩
  · simp at hk
  · injection h1 with q1 q2 q3
    exact ⟨g, o, q1, by omega, h4 k hk⟩
theorem own_cells_ed {w : World} {g : Nat} {l : List Ed} {ex : List Value} (h : w.heap[g]? = some (.cells (edsV l ++ ex).toArray 53 (0, 0))) (k : Nat) (hk : k < l.length) : w.rangeAt g (0 + k * 16) (l.getD k ed0).vals := fun j v hj => by
  have hv := edsV_len l
  rw [cell_of_row w g _ _ 53 (0, 0) h]
  rw [← edsV_part l k hk, List.getElem?_take] at hj
  split at hj
  · rename_i h34
    rw [List.getElem?_drop] at hj
    have hl := (List.getElem?_eq_some_iff.1 hj).1
    simp only [List.getElem?_toArray]
    rw [List.getElem?_append_left (by omega), Nat.zero_add]
    exact hj
  · cases hj
theorem own_edV {w : World} {base : Nat} {v : Value} {l : List Ed} (h : w.ownsRow base 53 16 v l.length (edsV l)) : EdV w v l := by
  rcases h.2 with ⟨rfl, h0⟩ | ⟨g, cap, cur, rfl, _, hg, hnc, _, hcs, ht⟩
  · exact .inl ⟨rfl, List.eq_nil_of_length_eq_zero h0⟩
  · have hg' : w.heap[g]? = some (.cells (edsV l ++ cur.toList.drop (l.length * 16)).toArray 53 (0, 0)) := by rw [hg, ← ht, List.take_append_drop]
    exact .inr ⟨g, 0, cap, rfl, hnc, fun _ => (Array.getElem?_eq_some_iff.1 hg').1, fun k hk => own_cells_ed hg' k hk⟩
theorem EdV.cells {w : World} {x : Addr} {n c : Nat} {l : List Ed} (h : EdV w (.slice (some x) n c) l) (hn : l.length = n) : ∀ j u, (edsV l)[j]? = some u → w.cell? (x.add j) = some u := fun j u hj => by
  have hl := edsV_len l
  have hjl := (List.getElem?_eq_some_iff.1 hj).1
  have hk : j / 16 < l.length := by omega
  obtain ⟨g, o, h1, _, h4⟩ := h.one hn (j / 16) (by omega)
  injection h1 with q1
  subst q1
  have h5 := h4 (j % 16) u (by
    rw [← edsV_part l (j / 16) hk, List.getElem?_take, if_pos (by omega), List.getElem?_drop, show j / 16 * 16 + j % 16 = j by omega]
    exact hj)
  rw [Addr.add_mid]
  rwa [show o + j / 16 * 16 + j % 16 = o + j by omega] at h5
/-- append(v, u...) of elements, where v is the call's own. -/
theorem app_eds (w : World) (base : Nat) (t ty : TypeId) (ht : Try.prog.underlying t = some (.slice 53)) (v u : Value) (l1 l2 : List Ed) (ho : w.ownsRow base 53 16 v l1.length (edsV l1)) (hu : EdV w u l2) (hb : base ≤ w.heap.size) (hl : l1.length + l2.length ≤ 1000000) :
    ∃ v' w', (Builtin.append_ #[t, t] ty #[v, u]).run Try.prog w = .ok v' w' ∧ w'.ownsRow base 53 16 v' (l1 ++ l2).length (edsV (l1 ++ l2)) ∧ Turn (fun q => v.ownBlock = some q) w w' := by
  obtain ⟨i0, hi, hz0, hz1, hz2⟩ := info_parts ed_infop
  have hlen : (l1 ++ l2).length = l1.length + l2.length := by simp
  rcases hu with ⟨rfl, rfl⟩ | hq
  · refine ⟨v, w, ?_, by simpa using ho, Turn.refl _ _⟩
    rcases ho.2 with ⟨rfl, h0⟩ | ⟨g, cap, cur, rfl, _, _, hnc, _⟩
    · simp [Builtin.append_, run_underlying ht, sizeOf, typeInfo, hi, Builtin.lenOf, Builtin.firstCells, h0]
    · simp [Builtin.append_, run_underlying ht, sizeOf, typeInfo, hi, Builtin.lenOf, Builtin.firstCells, hnc, storeCells]
  · have hu : EdV w u l2 := .inr hq
    obtain ⟨g, o, c, rfl, hc, _, h4⟩ := hq
    obtain ⟨v', w', hr, q1, q2, q3⟩ := run_append_own (P := Try.prog) w base t ty 53 i0 _ 16 176 ht hi hz0 hz1 hz2 (by rfl) (by decide) v l1.length _ ho ⟨g, o, none⟩ l2.length c (edsV l2) (by rw [edsV_len]; omega) (hu.cells rfl) (edsV_one l2) (by unfold maxLen; omega) (by omega) hb
    refine ⟨v', w', hr, by rw [hlen, edsV_app]; exact q1, (Turn.refl (fun q => v.ownBlock = some q) w).grown q2 (fun k h _ => h)⟩
theorem own_slice_ed {w : World} {base : Nat} {v : Value} {n : Nat} {xs : List Value} (h : w.ownsRow base 53 16 v n xs) : ∃ a c, v = .slice a n c := by
  rcases h.2 with ⟨rfl, rfl⟩ | ⟨g, cap', _, rfl, _⟩
  · exact ⟨_, _, rfl⟩
  · exact ⟨_, _, rfl⟩
/-- What turns only one's own row turns nothing old. -/
theorem turn_on_ed {w0 w w' : World} {base : Nat} {v : Value} {n : Nat} {xs : List Value} (h : w.ownsRow base 53 16 v n xs) (hb : w0.heap.size ≤ base) (t : Turn (fun _ => False) w0 w) (t' : Turn (fun q => v.ownBlock = some q) w w') : Turn (fun _ => False) w0 w' :=
  t.trans t' (fun i hi hv => by have := (h.lt i hv).1; omega)
theorem build_one_ed (t : TypeId) (ht : Try.prog.underlying t = some (.slice 53)) (r : Ed) (w : World) : (Instr.buildSlice t 1 #[(0, .agg r.vals.toArray)]).run Try.prog w = .ok (.slice (some ⟨w.heap.size, 0, none⟩) 1 1) (w.alloc (.cells r.vals.toArray 53)) := by
  obtain ⟨i0, hi, hz0, hz1, hz2⟩ := info_parts ed_infop
  refine run_buildSlice (P := Try.prog) w t 53 1 _ _ i0 _ ht hi hz0 (by rw [hz1]; decide) (by rw [hz1]; decide) ?_
  rw [hz1]
  exact fill_one 16 _ _ (by simp [Ed.vlen]) (by simp [ed0, Ed.vlen, Ed.vals, Ed.vlen])
theorem exec_build_one_ed (ev : Operand → Value) (op : Oper) (y : Operand) (t : TypeId) (ht : Try.prog.underlying t = some (.slice 53)) (ho : op.op = .buildSlice t 1 #[(0, y)]) (r : Ed) (hy : ev y = .agg r.vals.toArray) (w : World) : (execOp ev op).run Try.prog w = .ok (.value (.slice (some ⟨w.heap.size, 0, none⟩) 1 1)) (w.alloc (.cells r.vals.toArray 53)) := by
  unfold execOp
  simp only [ho, List.map_toArray, List.map_cons, List.map_nil, hy, Sem.run_bind, Sem.run_pure, build_one_ed t ht r, Result.andThen_ok]
theorem one_edV {w : World} (r : Ed) : EdV (w.alloc (.cells r.vals.toArray 53)) (.slice (some ⟨w.heap.size, 0, none⟩) 1 1) [r] := by
  have hb := box_alloc w 53 r.vals
  refine .inr ⟨w.heap.size, 0, 1, rfl, Nat.le_refl _, fun _ => by rw [hb.size]; omega, fun k hk => ?_⟩
  obtain rfl : k = 0 := by simpa using hk
  simpa using hb.range
/-- out = append(out, e): all in one. -/
theorem app_one_ed (w : World) (base : Nat) (t ty : TypeId) (ht : Try.prog.underlying t = some (.slice 53)) (v : Value) (l1 : List Ed) (r : Ed) (ho : w.ownsRow base 53 16 v l1.length (edsV l1)) (hb : base ≤ w.heap.size) (hl : l1.length + 1 ≤ 1000000) :
    ∃ v' w', (Builtin.append_ #[t, t] ty #[v, .slice (some ⟨w.heap.size, 0, none⟩) 1 1]).run Try.prog (w.alloc (.cells r.vals.toArray 53)) = .ok v' w' ∧ w'.ownsRow base 53 16 v' (l1 ++ [r]).length (edsV (l1 ++ [r])) ∧ Turn (fun q => v.ownBlock = some q) w w' ∧ ∃ a c, v' = .slice a (l1.length + 1) c := by
  have tb := (box_alloc w 53 r.vals).turn
  obtain ⟨v', w', hr, h1, h2⟩ := app_eds _ base t ty ht v _ l1 [r] (tb.owns ho (fun _ _ => id)) (one_edV (w := w) r) (Nat.le_trans hb tb.size) (by simpa using hl)
  refine ⟨v', w', hr, h1, (tb.mono (fun _ _ h => h.elim)).trans h2 (fun _ _ h => h), ?_⟩
  simpa using own_slice_ed h1
theorem getD_ext_ed {a b : List Ed} (hl : a.length = b.length) (h : ∀ k, k < a.length → a.getD k ed0 = b.getD k ed0) : a = b := by
  apply List.ext_getElem hl
  intro i h1 h2
  have := h i h1
  simpa [List.getD, h1, h2] using this
theorem getD_mem_ed {l : List Ed} {k : Nat} (h : k < l.length) : l.getD k ed0 ∈ l := by
  have : l.getD k ed0 = l[k] := by simp [List.getD, h]
  rw [this]
  exact List.getElem_mem _
theorem take_snoc_ed (l : List Ed) (k : Nat) (h : k < l.length) : l.take (k + 1) = l.take k ++ [l.getD k ed0] := by
  rw [List.take_succ_eq_append_getElem h]
  simp [List.getD, h]
theorem eqEl (n : Nat) (o1 o2 : El) (w : World) : (Op.equalIn (n + 1 + 1) 38 (.agg o1.vals.toArray) (.agg o2.vals.toArray)).run Try.prog w = .ok (decide (o1 = o2)) w := by
  have hu : Try.prog.underlying 38 = some (.struct (Try.prog.fieldsOf 38)) := by rw [el_fields]; kernel_rfl
  rw [run_equalIn_struct w (n + 1) 38 _ _ hu (by kernel_rfl), el_fields]
  have eI := fun a b : Int => run_equalIn_int (P := Try.prog) w n 3 .i64 .i64 a b Try.underlying3
  have eU := fun a b : Int => run_equalIn_int (P := Try.prog) w n 5 .u8 .u8 a b Try.underlying5
  have eS : ∀ a b : ByteArray, (Op.equalIn (n + 1) 9 (.string a) (.string b)).run Try.prog w = .ok (decide (a = b)) w := fun a b => by rw [← name_eq]; exact run_equalIn_string w n 9 a b Try.underlying9
  have p := fun (t k : Nat) (v : Value) (ha : ∀ w, (isAgg t).run Try.prog w = .ok false w) (o : El) (hk : o.vals[k]? = some v) => part_at t ha o k v hk w
  simp only [Op.eqFields, Sem.run_bind, Sem.run_ite, p 3 0 _ run_agg3 o1 rfl, p 3 0 _ run_agg3 o2 rfl, p 5 1 _ run_agg5 o1 rfl, p 5 1 _ run_agg5 o2 rfl, p 3 2 _ run_agg3 o1 rfl, p 3 2 _ run_agg3 o2 rfl, p 3 3 _ run_agg3 o1 rfl, p 3 3 _ run_agg3 o2 rfl,
    p 9 4 _ run_agg9 o1 rfl, p 9 4 _ run_agg9 o2 rfl, p 3 5 _ run_agg3 o1 rfl, p 3 5 _ run_agg3 o2 rfl, p 3 6 _ run_agg3 o1 rfl, p 3 6 _ run_agg3 o2 rfl, p 9 7 _ run_agg9 o1 rfl, p 9 7 _ run_agg9 o2 rfl, p 9 8 _ run_agg9 o1 rfl, p 9 8 _ run_agg9 o2 rfl, p 9 9 _ run_agg9 o1 rfl, p 9 9 _ run_agg9 o2 rfl, Result.andThen_ok, eI, eU, eS]
  obtain ⟨a0, a1, a2, a3, a4, a5, a6, a7, a8, a9⟩ := o1
  obtain ⟨b0, b1, b2, b3, b4, b5, b6, b7, b8, b9⟩ := o2
  simp only [El.mk.injEq]
  by_cases h0 : a0 = b0
  · by_cases h1 : a1 = b1
    · by_cases h2 : a2 = b2
      · by_cases h3 : a3 = b3
        · by_cases h4 : a4 = b4
          · by_cases h5 : a5 = b5
            · by_cases h6 : a6 = b6
              · by_cases h7 : a7 = b7
                · by_cases h8 : a8 = b8
                  · by_cases h9 : a9 = b9
                    · simp [h0, h1, h2, h3, h4, h5, h6, h7, h8, h9]
                    · simp [h0, h1, h2, h3, h4, h5, h6, h7, h8, h9]
                  · simp [h0, h1, h2, h3, h4, h5, h6, h7, h8]
                · simp [h0, h1, h2, h3, h4, h5, h6, h7]
              · simp [h0, h1, h2, h3, h4, h5, h6]
            · simp [h0, h1, h2, h3, h4, h5]
          · simp [h0, h1, h2, h3, h4]
        · simp [h0, h1, h2, h3]
      · simp [h0, h1, h2]
    · simp [h0, h1]
  · simp [h0]
theorem eqVl (n : Nat) (n1 n2 : Int) (s1 s2 : ByteArray) (w : World) : (Op.equalIn (n + 1 + 1) 51 (.agg (vl n1 s1).toArray) (.agg (vl n2 s2).toArray)).run Try.prog w = .ok (decide (n1 = n2 ∧ s1 = s2)) w := by
  have hu : Try.prog.underlying 51 = some (.struct (Try.prog.fieldsOf 51)) := by rw [vl_fields]; kernel_rfl
  rw [run_equalIn_struct w (n + 1) 51 _ _ hu (by kernel_rfl), vl_fields]
  have eI := run_equalIn_int (P := Try.prog) w n 3 .i64 .i64 n1 n2 Try.underlying3
  have eS := run_equalIn_string (P := Try.prog) w n 9 s1 s2 Try.underlying9
  rw [name_eq] at eS
  simp only [Op.eqFields, Sem.run_bind, Sem.run_ite, vpart 3 run_agg3 n1 s1 0 _ rfl, vpart 3 run_agg3 n2 s2 0 _ rfl, vpart 9 run_agg9 n1 s1 1 _ rfl, vpart 9 run_agg9 n2 s2 1 _ rfl, Result.andThen_ok, eI, eS]
  by_cases h0 : n1 = n2
  · by_cases h1 : s1 = s2
    · simp [h0, h1]
    · simp [h0, h1]
  · simp [h0]
theorem ed_fields : Try.prog.fieldsOf 53 = #[⟨"Op", 5, 0, false, "", "", 0⟩, ⟨"E", 38, 1, false, "", "", 8⟩, ⟨"Field", 3, 11, false, "", "", 120⟩, ⟨"Old", 51, 12, false, "", "", 128⟩, ⟨"New", 51, 14, false, "", "", 152⟩] := by kernel_rfl
theorem pOp (x : Ed) (w : World) : (part 5 x.vals.toArray 0).run Try.prog w = .ok (.int .u8 x.op) w := by kernel_rfl
theorem pE (x : Ed) (w : World) : (part 38 x.vals.toArray 1).run Try.prog w = .ok (.agg x.e.vals.toArray) w := by kernel_rfl
theorem pF (x : Ed) (w : World) : (part 3 x.vals.toArray 11).run Try.prog w = .ok (.int .i64 x.f) w := by kernel_rfl
theorem pO (x : Ed) (w : World) : (part 51 x.vals.toArray 12).run Try.prog w = .ok (.agg (vl x.on x.os).toArray) w := by kernel_rfl
theorem pN (x : Ed) (w : World) : (part 51 x.vals.toArray 14).run Try.prog w = .ok (.agg (vl x.nn x.ns).toArray) w := by kernel_rfl
theorem eqEd (x y : Ed) (w : World) : (Op.equalIn 10000 53 (.agg x.vals.toArray) (.agg y.vals.toArray)).run Try.prog w = .ok (decide (x = y)) w := by
  have hu : Try.prog.underlying 53 = some (.struct (Try.prog.fieldsOf 53)) := by rw [ed_fields]; kernel_rfl
  rw [run_equalIn_struct w 9999 53 _ _ hu (by kernel_rfl), ed_fields]
  have eU := run_equalIn_int (P := Try.prog) w 9998 5 .u8 .u8 x.op y.op Try.underlying5
  have eI := run_equalIn_int (P := Try.prog) w 9998 3 .i64 .i64 x.f y.f Try.underlying3
  have eE := eqEl 9997 x.e y.e w
  have eO := eqVl 9997 x.on y.on x.os y.os w
  have eN := eqVl 9997 x.nn y.nn x.ns y.ns w
  simp only [Nat.reduceAdd] at eU eI eE eO eN
  simp only [Op.eqFields, Sem.run_bind, Sem.run_ite, pOp, pE, pF, pO, pN, Result.andThen_ok, eU, eI, eE, eO, eN]
  obtain ⟨a0, a1, a2, a3, a4, a5, a6⟩ := x
  obtain ⟨b0, b1, b2, b3, b4, b5, b6⟩ := y
  simp only [Ed.mk.injEq]
  by_cases h0 : a0 = b0
  · by_cases h1 : a1 = b1
    · by_cases h2 : a2 = b2
      · by_cases h3 : a3 = b3 ∧ a4 = b4
        · by_cases h5 : a5 = b5 ∧ a6 = b6
          · simp [h0, h1, h2, h3, h5]
          · have : ¬ (a3 = b3 ∧ a4 = b4 ∧ a5 = b5 ∧ a6 = b6) := fun h => h5 h.2.2
            simp [h0, h1, h2, h3, h5, this]
        · have : ¬ (a3 = b3 ∧ a4 = b4 ∧ a5 = b5 ∧ a6 = b6) := fun h => h3 ⟨h.1, h.2.1⟩
          simp [h0, h1, h2, h3, this]
      · simp [h0, h1, h2]
    · simp [h0, h1]
  · simp [h0]
theorem exec_eql_ed (ev : Operand → Value) (op : Oper) {a b : Operand} (ho : op.op = .binOp .eql 53 a b 53) (o1 o2 : Ed) (w : World) (h1 : ev a = .agg o1.vals.toArray) (h2 : ev b = .agg o2.vals.toArray) : (execOp ev op).run Try.prog w = .ok (.value (.bool (decide (o1 = o2)))) w := by
  have hg : (eqGuard .eql 53 a b (.agg o1.vals.toArray) (.agg o2.vals.toArray)).run Try.prog w = .ok () w := by simp [eqGuard]
  unfold execOp
  simp only [ho, h1, h2, Sem.run_bind, run_eql_struct, eqEd, hg, Result.andThen_ok, Sem.run_pure]
/-- The cells of an edit. -/
theorem range_sub {w : World} {B o : Nat} {a b c : List Value} (h : w.rangeAt B o (a ++ (b ++ c))) : w.rangeAt B (o + a.length) b := fun j v hj => by
  have hl := (List.getElem?_eq_some_iff.1 hj).1
  have := h (a.length + j) v (by rw [List.getElem?_append_right (by omega), Nat.add_sub_cancel_left, List.getElem?_append_left hl]; exact hj)
  rwa [← Nat.add_assoc] at this
theorem edE {w : World} {B o : Nat} {x : Ed} (h : w.rangeAt B o x.vals) : w.rangeAt B (o + 1) x.e.vals := range_sub (a := [_]) (b := x.e.vals) h
theorem edO {w : World} {B o : Nat} {x : Ed} (h : w.rangeAt B o x.vals) : w.rangeAt B (o + 12) (vl x.on x.os) := range_sub (a := .int .u8 x.op :: (x.e.vals ++ [.int .i64 x.f])) (b := vl x.on x.os) (c := vl x.nn x.ns) h
theorem edN {w : World} {B o : Nat} {x : Ed} (h : w.rangeAt B o x.vals) : w.rangeAt B (o + 14) (vl x.nn x.ns) := range_sub (a := .int .u8 x.op :: (x.e.vals ++ (.int .i64 x.f :: vl x.on x.os))) (b := vl x.nn x.ns) (c := []) h
theorem edC {w : World} {B o : Nat} {x : Ed} (h : w.rangeAt B o x.vals) : w.cell? ⟨B, o, none⟩ = some (.int .u8 x.op) ∧ w.cell? ⟨B, o + 1, none⟩ = some (.int .i64 x.e.id) ∧ w.cell? ⟨B, o + 3, none⟩ = some (.int .i64 x.e.par) ∧ w.cell? ⟨B, o + 11, none⟩ = some (.int .i64 x.f) ∧ w.cell? ⟨B, o + 12, none⟩ = some (.int .i64 x.on) ∧ w.cell? ⟨B, o + 14, none⟩ = some (.int .i64 x.nn) :=
  ⟨h 0 _ rfl, h 1 _ rfl, h 3 _ rfl, h 11 _ rfl, h 12 _ rfl, h 14 _ rfl⟩
theorem exec_edB (ev : Operand → Value) (op : Oper) (x y : Operand) (n : Int) (e : El) (ho : op.op = .build 53 #[(0, x), (1, y)]) (hx : ev x = .int .u8 n) (hy : ev y = .agg e.vals.toArray) (w : World) : (execOp ev op).run Try.prog w = .ok (.value (.agg (Ed.mk n e 0 0 e0 0 e0).vals.toArray)) w := by
  have : (Instr.build 53 #[(0, .int .u8 n), (1, .agg e.vals.toArray)]).run Try.prog w = .ok (.agg (Ed.mk n e 0 0 e0 0 e0).vals.toArray) w := by kernel_rfl
  unfold execOp
  simp only [ho, List.map_toArray, List.map_cons, List.map_nil, hx, hy, Sem.run_bind, Sem.run_pure, this, Result.andThen_ok]
theorem exec_zero_ed (ev : Operand → Value) (op : Oper) (ho : op.op = .alloc 53) (w : World) : (execOp ev op).run Try.prog w = .ok (.value (.pointer (some ⟨w.heap.size, 0, none⟩))) (w.alloc (.cells ed0.vals.toArray 53)) := by
  unfold execOp
  simp only [ho, Sem.run_bind, ed_zero, Result.andThen_ok]
  rfl
section
variable {P : Program} {ops : Array Oper} {Q : Exit → Act → World → Prop} {a : Act} {o : Oper} {rest : List Oper}
theorem list_set1E (w : World) (E : Nat) (T ty : TypeId) (zs : List Value) (j : Nat) (v : Value) (hh : w.heap[E]? = some (.cells zs.toArray T (0, 0))) (hj : j < zs.length) (h1 : v.oneCell' = true) (hv : v.cells = #[v]) (hi : (P.info? ty).map (·.size) = some 1)
    (hgd : o.guard = none) (x y : Operand) (ho : o.op = .store ty x y) (hx : a.eval x = .pointer (some ⟨E, j, none⟩)) (hy : a.eval y = v)
    (h : ∀ w', w'.heap[E]? = some (.cells (zs.set j v).toArray T (0, 0)) → Turn (fun q => q = E) w w' → wpList P ops Q rest (a.put o.dst undef) w') : wpList P ops Q (o :: rest) a w := by
  have ht := there_row hh
  have hst := run_storeCells_cells (P := P) E j [v] 0 w (fun i hi => by
    have hi0 : i = 0 := by simpa using hi
    subst hi0
    simpa using (ht j hj).1) (fun i hi => by
    have hi0 : i = 0 := by simpa using hi
    subst hi0
    simpa using (ht j hj).2) (fun u hu => by rw [List.mem_singleton.1 hu]; exact h1)
  have hsv : (storeVar ty ⟨E, j, none⟩ v).run P w = .ok () (w.setCells E j [v]) := by
    cases hq : P.info? ty with
    | none => simp [hq] at hi
    | some i =>
      have hs : i.size = 1 := by simpa [hq] using hi
      simp only [Nat.add_zero] at hst
      simp [storeVar, sizeOf, typeInfo, hq, hv, hs, hst]
  refine wpList_plain hgd fun _ hK => ?_
  unfold Oper.wp execOp
  simp only [ho, hx, hy, Instr.storeAt, Instr.sureAddr, Sem.run_bind, Sem.run_pure, Result.andThen_ok, hsv]
  refine hK _ _ (h _ ?_ (turn_setCells E [v] j w))
  rw [heap_setCells E T [v] j w zs hh (by simp; omega)]
  congr 3
  rw [List.set_eq_take_append_cons_drop, if_pos hj]
  simp
end
section
variable {P : Program} {ops : Array Oper} {Q : Exit → Act → World → Prop} {a : Act} {o : Oper} {rest : List Oper}
/-- A part of a variable is written. -/
theorem list_mid (w : World) (B j : Nat) (T U : TypeId) (zs cs : List Value) (hh : w.heap[B]? = some (.cells zs.toArray T (0, 0))) (hl : j + cs.length ≤ zs.length) (h1 : ∀ v ∈ cs, v.oneCell' = true) (hi : (P.info? U).map (·.size) = some cs.length)
    (hgd : o.guard = none) (x y : Operand) (ho : o.op = .store U x y) (hx : a.eval x = .pointer (some ⟨B, j, none⟩)) (hy : a.eval y = .agg cs.toArray)
    (h : ∀ w', w'.heap[B]? = some (.cells (zs.take j ++ cs ++ zs.drop (j + cs.length)).toArray T (0, 0)) → Turn (fun q => q = B) w w' → wpList P ops Q rest (a.put o.dst undef) w') : wpList P ops Q (o :: rest) a w := by
  refine wpList_store_mid hgd U x y ho B j cs.toArray hx hy (fun i hi => ?_) (by simpa using hi) (all_oneCell_toArray h1) (h _ (heap_setCells B T cs j w zs hh hl) (turn_setCells B cs j w))
  have := there_row hh (j + i) (by simp only [List.size_toArray] at hi; omega)
  simpa using this
end
/-- An element of a row of one's own is written. -/
theorem own_set_ed {w : World} {base g cap n : Nat} {C : List Ed} (h : w.ownsRow base 53 16 (.slice (some ⟨g, 0, none⟩) n cap) n (edsV C)) (hn : C.length = n) (i : Nat) (hi : i < n) (x : Ed) :
    (w.setCells g (i * 16) x.vals).ownsRow base 53 16 (.slice (some ⟨g, 0, none⟩) n cap) n (edsV (C.set i x)) ∧ w.there g (i * 16) 16 := by
  rcases h.2 with ⟨h1, _⟩ | ⟨g', cap', cur, h1, h2, h3, h4, h5, h6, h7⟩
  · cases h1
  · injection h1 with q1 q2 q3
    injection q1 with q1
    injection q1 with q1 _ _
    subst q1 q3
    have h3' : w.heap[g]? = some (.cells cur.toList.toArray 53 (0, 0)) := by simpa using h3
    have hcl : cur.toList.length = cap * 16 := by simpa using h6
    have hs := heap_setCells g 53 x.vals (i * 16) w cur.toList h3' (by rw [Ed.vlen]; omega)
    refine ⟨⟨?_, .inr ⟨g, cap, _, rfl, h2, hs, h4, h5, ?_, ?_⟩⟩, fun j hj => ?_⟩
    · rw [edsV_len, List.length_set, hn]; omega
    · simp only [List.size_toArray, List.length_append, List.length_take, List.length_drop, Ed.vlen]; omega
    · have hl := edsV_len C
      rw [edsV_set C x i (by omega), ← h7]
      simp only [Ed.vlen]
      rw [List.take_take, List.drop_take, List.take_append, List.take_append]
      simp only [List.length_take, List.length_append, Ed.vlen]
      rw [List.take_of_length_le (l := cur.toList.take (i * 16)) (by simp only [List.length_take]; omega), List.take_of_length_le (l := x.vals) (by rw [Ed.vlen]; omega)]
      rw [show min (i * 16) (n * 16) = i * 16 by omega, show n * 16 - (min (i * 16) cur.toList.length + 16) = n * 16 - (i * 16 + 16) by omega]
    · have := there_row h3' (i * 16 + j) (by omega)
      simpa using this
/-- A row of edits of the call's own. -/
def OwE (b : Nat) (w : World) (v : Value) (l : List Ed) : Prop := w.ownsRow b 53 16 v l.length (edsV l)
theorem OwE.row {b : Nat} {w : World} {v : Value} {l : List Ed} (h : OwE b w v l) : EdV w v l := own_edV h
theorem OwE.turn {b : Nat} {w w' : World} {v : Value} {l : List Ed} {G : Nat → Prop} (h : OwE b w v l) (t : Turn G w w') (hn : ∀ q, v.ownBlock = some q → ¬ G q) : OwE b w' v l := t.owns h hn
theorem OwE.at {b : Nat} {w : World} {a : Option Addr} {n c : Nat} {l : List Ed} (h : OwE b w (.slice a n c) l) (hn : l.length = n) (h0 : 0 < n) : ∃ g, a = some ⟨g, 0, none⟩ ∧ b ≤ g ∧ g < w.heap.size := by
  rcases h.2 with ⟨h1, h2⟩ | ⟨g, cap, cur, h1, h2, h3, _⟩
  · omega
  · injection h1 with q1 _ _
    exact ⟨g, q1, h2, (Array.getElem?_eq_some_iff.1 h3).1⟩
theorem OwE.set {b : Nat} {w : World} {g n c : Nat} {l : List Ed} (h : OwE b w (.slice (some ⟨g, 0, none⟩) n c) l) (hn : l.length = n) (i : Nat) (hi : i < n) (x : Ed) : OwE b (w.setCells g (i * 16) x.vals) (.slice (some ⟨g, 0, none⟩) n c) (l.set i x) := by
  unfold OwE at h ⊢
  rw [hn] at h
  have := (own_set_ed h hn i hi x).1
  rw [List.length_set, hn]
  exact this
/-- A new row of edits. -/
def NewEds (w : World) (l : List Ed) (e : Ending) (w' : World) : Prop := ∃ v, e = .returned v ∧ OwE w.heap.size w' v l ∧ Turn (fun _ => False) w w'

end Go.Proofs.Ytkciaafkhpjnaaa
namespace Go.Proofs.Ytkciaafkhpjnaaa
set_option maxRecDepth 100000
open Go.RowKit
set_option linter.unusedVariables false
set_option linter.unusedSimpArgs false

theorem turned_any (x : Ed) (w : World) : Calls Try.prog 36 #[.agg x.vals.toArray] w fun e w' => e = .returned (.agg (turnE x).vals.toArray) ∧ Turn (fun _ => False) w w' := by
  have hbx := box_alloc w 53 x.vals
  obtain ⟨X, hX⟩ : ∃ X, w.heap.size = X := ⟨_, rfl⟩
  obtain ⟨w1, hw1⟩ : ∃ w1, w.alloc (.cells x.vals.toArray 53) = w1 := ⟨_, rfl⟩
  rw [hw1] at hbx
  have hh := hbx.heap
  rw [hX] at hh
  have hr := hbx.range
  rw [hX] at hr
  obtain ⟨c0, c1, c3, c11, c12, c14⟩ := edC hr
  simp only [Nat.zero_add] at c0 c1 c3 c11 c12 c14
  have T1 := Lib.hid hbx.turn
  have HR := Lib.hid hr
  have HX := Lib.hid hh
  have HXS := Lib.hid hX
  have HSZ := Lib.hid hbx.size
  clear hbx hr hh
  obtain ⟨Z, hZ⟩ : ∃ Z, w1.heap.size = Z := ⟨_, rfl⟩
  obtain ⟨w2, hw2⟩ : ∃ wz, w1.alloc (.cells ed0.vals.toArray 53) = wz := ⟨_, rfl⟩
  have hx0 : ∀ ev op, op.op = .alloc 53 → (execOp ev op).run Try.prog w1 = .ok (.value (.pointer (some ⟨Z, 0, none⟩))) w2 := fun ev op ho => by rw [← hw2, ← hZ]; exact exec_zero_ed ev op ho _
  have hb0 := box_alloc w1 53 ed0.vals
  rw [hw2] at hb0
  have hh0 := hb0.heap
  rw [hZ] at hh0
  have HXX0 := Lib.hid hx0
  have HB0 := Lib.hid hb0
  have HH0 := Lib.hid hh0
  have HE0 := Lib.hid hZ
  clear hb0 hZ hw2 hx0 hh0
  have HX2 := Lib.hid ((HB0.out.turn.block X (Array.getElem?_eq_some_iff.1 HX.out).1 id).trans HX.out)
  have HXZ := Lib.hid (show X < Z by have := HE0.out; have := HSZ.out; have := HXS.out; omega)
  have T2 := Lib.hid (T1.out.trans HB0.out.turn (fun _ _ => id))
  have hr2 := range_of HX2.out
  obtain ⟨d0, d1, d3, d11, d12, d14⟩ := edC hr2
  have HO2 := Lib.hid (edO hr2)
  have HN2 := Lib.hid (edN hr2)
  simp only [Nat.zero_add] at d0 d1 d3 d11 d12 d14
  clear c0 c1 c3 c11 c12 c14 hr2
  by_cases h1 : x.op = 1
  · have q1 : (x.op == 1) = true := by simpa using h1
    obtain ⟨y, hy⟩ : ∃ y : Ed, { x with op := 2 } = y := ⟨_, rfl⟩
    have HTE := Lib.hid (show turnE x = y by unfold turnE; rw [if_pos h1, hy])
    clear h1
    have hy2 : (x.vals.set 0 (.int .u8 2)) = y.vals := by rw [← hy]; rfl
    have HYY := Lib.hid hy2
    clear hy hy2
    go_enter Try.func36, Try.ntmps36
    go_wp2_with (with_reducible (show wpList _ _ _ (Oper.mk (some 2) (.alloc 53) _ _ _ _ :: _) _ _); refine still ?_)
    refine list_exec rfl _ _ (HXX0.out _ _ rfl) ?_
    go_wp2_with (with_reducible (show wpList _ _ _ (Oper.mk none (.store 5 (.tmp 13) _) _ _ _ _ :: _) _ _); refine still ?_)
    refine list_set1E w2 X 53 5 x.vals 0 (.int .u8 2) HX2.out (by rw [Ed.vlen]; decide) rfl rfl (by kernel_rfl) rfl (.tmp 13) _ rfl rfl rfl (fun w9 h9 t9 => ?_)
    rw [HYY.out] at h9
    have HY := Lib.hid h9
    have HZ9 := Lib.hid ((t9.block Z (Array.getElem?_eq_some_iff.1 HH0.out).1 (fun e => by have := HXZ.out; omega)).trans HH0.out)
    have T9 := Lib.hid (T2.out.trans t9 (fun q hq e => by have := HXS.out; omega))
    clear h9 t9 d0 d1 d3 d11 d12 d14
    go_wp2_with (with_reducible (show wpList _ _ _ (Oper.mk (some 17) (.load 53 (.tmp 1)) _ _ _ _ :: _) _ _); refine still ?_)
    refine wpList_load_mid rfl 53 (.tmp 1) rfl X 0 rfl y.vals _ (range_of HY.out) Try.underlying53 rfl ed_info ?_
    go_wp2_with (with_reducible (show wpList _ _ _ (Oper.mk none (.store 53 (.tmp 2) (.tmp 17)) _ _ _ _ :: _) _ _); refine still ?_)
    refine list_put w9 Z 53 ed0.vals y.vals HZ9.out rfl y.vals_one ed_info rfl (.tmp 2) (.tmp 17) rfl rfl rfl (fun w5 h5 t5 => ?_)
    have H5 := Lib.hid h5
    have T5 := Lib.hid (T9.out.trans t5 (fun q hq e => by have := HE0.out; have := HSZ.out; omega))
    clear h5 t5
    go_wp2_with fail
    refine bodyPost_ret (run_cell Try.f36 2 53 (by kernel_rfl) Z _ w5 (range_of H5.out) Try.underlying53 rfl ed_info _ rfl) rfl ?_
    exact ⟨by rw [HTE.out], T5.out⟩
  · have q1 : (x.op == 1) = false := by simpa using h1
    by_cases h2 : x.op = 2
    · have q2 : (x.op == 2) = true := by simpa using h2
      obtain ⟨y, hy⟩ : ∃ y : Ed, { x with op := 1 } = y := ⟨_, rfl⟩
      have HTE := Lib.hid (show turnE x = y by unfold turnE; rw [if_neg h1, if_pos h2, hy])
      clear h1 h2
      have hy2 : (x.vals.set 0 (.int .u8 1)) = y.vals := by rw [← hy]; rfl
      have HYY := Lib.hid hy2
      clear hy hy2
      go_enter Try.func36, Try.ntmps36
      go_wp2_with (with_reducible (show wpList _ _ _ (Oper.mk (some 2) (.alloc 53) _ _ _ _ :: _) _ _); refine still ?_)
      refine list_exec rfl _ _ (HXX0.out _ _ rfl) ?_
      go_wp2_with (with_reducible (show wpList _ _ _ (Oper.mk none (.store 5 (.tmp 16) _) _ _ _ _ :: _) _ _); refine still ?_)
      refine list_set1E w2 X 53 5 x.vals 0 (.int .u8 1) HX2.out (by rw [Ed.vlen]; decide) rfl rfl (by kernel_rfl) rfl (.tmp 16) _ rfl rfl rfl (fun w9 h9 t9 => ?_)
      rw [HYY.out] at h9
      have HY := Lib.hid h9
      have HZ9 := Lib.hid ((t9.block Z (Array.getElem?_eq_some_iff.1 HH0.out).1 (fun e => by have := HXZ.out; omega)).trans HH0.out)
      have T9 := Lib.hid (T2.out.trans t9 (fun q hq e => by have := HXS.out; omega))
      clear h9 t9 d0 d1 d3 d11 d12 d14
      go_wp2_with (with_reducible (show wpList _ _ _ (Oper.mk (some 17) (.load 53 (.tmp 1)) _ _ _ _ :: _) _ _); refine still ?_)
      refine wpList_load_mid rfl 53 (.tmp 1) rfl X 0 rfl y.vals _ (range_of HY.out) Try.underlying53 rfl ed_info ?_
      go_wp2_with (with_reducible (show wpList _ _ _ (Oper.mk none (.store 53 (.tmp 2) (.tmp 17)) _ _ _ _ :: _) _ _); refine still ?_)
      refine list_put w9 Z 53 ed0.vals y.vals HZ9.out rfl y.vals_one ed_info rfl (.tmp 2) (.tmp 17) rfl rfl rfl (fun w5 h5 t5 => ?_)
      have H5 := Lib.hid h5
      have T5 := Lib.hid (T9.out.trans t5 (fun q hq e => by have := HE0.out; have := HSZ.out; omega))
      clear h5 t5
      go_wp2_with fail
      refine bodyPost_ret (run_cell Try.f36 2 53 (by kernel_rfl) Z _ w5 (range_of H5.out) Try.underlying53 rfl ed_info _ rfl) rfl ?_
      exact ⟨by rw [HTE.out], T5.out⟩
    · have q2 : (x.op == 2) = false := by simpa using h2
      obtain ⟨y, hy⟩ : ∃ y : Ed, { x with on := x.nn, os := x.ns, nn := x.on, ns := x.os } = y := ⟨_, rfl⟩
      have HTE := Lib.hid (show turnE x = y by unfold turnE; rw [if_neg h1, if_neg h2, hy])
      clear h1 h2
      have hy1 : x.vals.take 12 ++ vl x.nn x.ns ++ x.vals.drop (12 + (vl x.nn x.ns).length) = ({ x with on := x.nn, os := x.ns } : Ed).vals := rfl
      have hy2 : ({ x with on := x.nn, os := x.ns } : Ed).vals.take 14 ++ vl x.on x.os ++ ({ x with on := x.nn, os := x.ns } : Ed).vals.drop (14 + (vl x.on x.os).length) = y.vals := by rw [← hy]; rfl
      have HYA := Lib.hid hy1
      have HYY := Lib.hid hy2
      clear hy hy1 hy2
      go_enter Try.func36, Try.ntmps36
      go_wp2_with (with_reducible (show wpList _ _ _ (Oper.mk (some 2) (.alloc 53) _ _ _ _ :: _) _ _); refine still ?_)
      refine list_exec rfl _ _ (HXX0.out _ _ rfl) ?_
      go_wp2_with (with_reducible (show wpList _ _ _ (Oper.mk (some 6) (.load 51 (.tmp 5)) _ _ _ _ :: _) _ _); refine still ?_)
      refine wpList_load_mid rfl 51 (.tmp 5) rfl X 14 rfl (vl x.nn x.ns) _ HN2.out Try.underlying51 rfl vl_info ?_
      go_wp2_with (with_reducible (show wpList _ _ _ (Oper.mk (some 8) (.load 51 (.tmp 7)) _ _ _ _ :: _) _ _); refine still ?_)
      refine wpList_load_mid rfl 51 (.tmp 7) rfl X 12 rfl (vl x.on x.os) _ HO2.out Try.underlying51 rfl vl_info ?_
      go_wp2_with (with_reducible (show wpList _ _ _ (Oper.mk none (.store 51 (.tmp 9) (.tmp 6)) _ _ _ _ :: _) _ _); refine still ?_)
      refine list_mid w2 X 12 53 51 x.vals (vl x.nn x.ns) HX2.out (by show 14 ≤ 16; decide) (vl_one _ _) vl_info rfl (.tmp 9) (.tmp 6) rfl rfl rfl (fun w8 h8 t8 => ?_)
      rw [HYA.out] at h8
      have H8 := Lib.hid h8
      have HZ8 := Lib.hid ((t8.block Z (Array.getElem?_eq_some_iff.1 HH0.out).1 (fun e => by have := HXZ.out; omega)).trans HH0.out)
      have T8 := Lib.hid (T2.out.trans t8 (fun q hq e => by have := HXS.out; omega))
      clear h8 t8 d0 d1 d3 d11 d12 d14
      go_wp2_with (with_reducible (show wpList _ _ _ (Oper.mk none (.store 51 (.tmp 10) (.tmp 8)) _ _ _ _ :: _) _ _); refine still ?_)
      refine list_mid w8 X 14 53 51 _ (vl x.on x.os) H8.out (by show 16 ≤ 16; decide) (vl_one _ _) vl_info rfl (.tmp 10) (.tmp 8) rfl rfl rfl (fun w9 h9 t9 => ?_)
      rw [HYY.out] at h9
      have HY := Lib.hid h9
      have HZ9 := Lib.hid ((t9.block Z (Array.getElem?_eq_some_iff.1 HZ8.out).1 (fun e => by have := HXZ.out; omega)).trans HZ8.out)
      have T9 := Lib.hid (T8.out.trans t9 (fun q hq e => by have := HXS.out; omega))
      clear h9 t9
      go_wp2_with (with_reducible (show wpList _ _ _ (Oper.mk (some 17) (.load 53 (.tmp 1)) _ _ _ _ :: _) _ _); refine still ?_)
      refine wpList_load_mid rfl 53 (.tmp 1) rfl X 0 rfl y.vals _ (range_of HY.out) Try.underlying53 rfl ed_info ?_
      go_wp2_with (with_reducible (show wpList _ _ _ (Oper.mk none (.store 53 (.tmp 2) (.tmp 17)) _ _ _ _ :: _) _ _); refine still ?_)
      refine list_put w9 Z 53 ed0.vals y.vals HZ9.out rfl y.vals_one ed_info rfl (.tmp 2) (.tmp 17) rfl rfl rfl (fun w5 h5 t5 => ?_)
      have H5 := Lib.hid h5
      have T5 := Lib.hid (T9.out.trans t5 (fun q hq e => by have := HE0.out; have := HSZ.out; omega))
      clear h5 t5
      go_wp2_with fail
      refine bodyPost_ret (run_cell Try.f36 2 53 (by kernel_rfl) Z _ w5 (range_of H5.out) Try.underlying53 rfl ed_info _ rfl) rfl ?_
      exact ⟨by rw [HTE.out], T5.out⟩

end Go.Proofs.Ytkciaafkhpjnaaa
namespace Go.Proofs.Ytkciaafkhpjnaaa
set_option maxRecDepth 100000
open Go.RowKit
set_option linter.unusedVariables false
set_option linter.unusedSimpArgs false

theorem clone_eds (w : World) (v : Value) (l : List Ed) (hv : EdV w v l) (hb : l.length ≤ 1000) : Calls Try.prog 34 #[v] w (NewEds w l) := by
  rcases hv with ⟨rfl, rfl⟩ | hq
  · have hnil : ∀ w, (binOp .eql 28 (.slice none 0 0) (.slice none 0 0)).run Try.prog w = .ok (.bool true) w := fun w => Lib.run_eql_slice_nil (P := Try.prog) w 28 53 none 0 0 0 0 Try.underlying28
    go_enter Try.func34, Try.ntmps34
    go_wp2_with fail
    go_ret
    exact ⟨_, rfl, World.ownsRow_nil _ _ _ _, Turn.refl _ _⟩
  · have hv : EdV w v l := .inr hq
    obtain ⟨g, o, c, rfl, hc, _, h4⟩ := hq
    obtain ⟨n, hn⟩ : ∃ n, l.length = n := ⟨_, rfl⟩
    rw [hn] at hv hb ⊢
    have hnil : ∀ w, (binOp .eql 28 (.slice (some ⟨g, o, none⟩) n c) (.slice none 0 0)).run Try.prog w = .ok (.bool false) w := fun w => Lib.run_eql_slice_nil (P := Try.prog) w 28 53 _ _ _ 0 0 Try.underlying28
    have hown := World.ownsRow_lit (base := w.heap.size) (e := 53) (size := 16) w #[] 0 (Nat.le_refl _) (by unfold maxLen; omega) (by simp)
    have T0 := (Turn.refl (fun _ => False) w).alloc (.cells #[] 53)
    obtain ⟨v', w', hr, ho, t⟩ := app_eds (w.alloc (.cells #[] 53)) w.heap.size 28 28 Try.underlying28 _ _ [] l hown (hv.turn T0 (fun _ _ => id)) (by simp) (by simp; omega)
    have t2 := turn_on_ed hown (Nat.le_refl _) T0 t
    obtain ⟨a5, c5, hv5⟩ := own_slice_ed ho
    subst hv5
    have HN := Lib.hid hn
    have HR := Lib.hid hr
    have HO := Lib.hid ho
    have HT := Lib.hid t2
    clear hr ho t2 t hown hv h4 hn hc T0
    go_enter Try.func34, Try.ntmps34
    go_wp2_with (with_reducible (show wpList _ _ _ (Oper.mk (some 7) _ _ _ _ _ :: _) _ _); refine still ?_)
    refine list_exec rfl _ _ (exec_append _ _ (.tmp 5) (.tmp 6) 28 rfl _ _ _ _ _ rfl rfl HR.out) ?_
    go_wp2_with fail
    go_ret
    exact ⟨_, rfl, by unfold OwE; simpa using HO.out, HT.out⟩
/-- In place, from both ends. -/
def revAt (l : List Ed) (i : Nat) (cur : List Ed) : Prop := cur.length = l.length ∧ ∀ k, k < l.length → cur.getD k ed0 = if k < i ∨ l.length < k + i + 1 then l.getD (l.length - 1 - k) ed0 else l.getD k ed0
theorem getD_set_ed (l : List Ed) (i k : Nat) (x : Ed) (hi : i < l.length) : (l.set i x).getD k ed0 = if k = i then x else l.getD k ed0 := by
  simp only [List.getD_eq_getElem?_getD, List.getElem?_set]
  by_cases e : i = k
  · subst e; simp [hi]
  · rw [if_neg e, if_neg (fun h => e h.symm)]
theorem revAt.step {l cur : List Ed} {i : Nat} (h : revAt l i cur) (hi : 2 * i + 1 < l.length) : revAt l (i + 1) ((cur.set i (cur.getD (l.length - 1 - i) ed0)).set (l.length - 1 - i) (cur.getD i ed0)) := by
  obtain ⟨hl, hg⟩ := h
  refine ⟨by simp [hl], fun k hk => ?_⟩
  rw [getD_set_ed _ _ _ _ (by simp [hl]; omega), getD_set_ed _ _ _ _ (by omega), hg i (by omega), hg (l.length - 1 - i) (by omega), hg k hk]
  rw [if_neg (show ¬ (i < i ∨ l.length < i + i + 1) by omega), if_neg (show ¬ (l.length - 1 - i < i ∨ l.length < l.length - 1 - i + i + 1) by omega)]
  by_cases h1 : k = l.length - 1 - i
  · subst h1
    rw [if_pos rfl, if_pos (by omega), show l.length - 1 - (l.length - 1 - i) = i by omega]
  · rw [if_neg h1]
    by_cases h2 : k = i
    · subst h2
      rw [if_pos rfl, if_pos (by omega)]
    · rw [if_neg h2]
      by_cases h3 : k < i ∨ l.length < k + i + 1
      · rw [if_pos h3, if_pos (by omega)]
      · rw [if_neg h3, if_neg (by omega)]
theorem revAt.done {l cur : List Ed} {i : Nat} (h : revAt l i cur) (hi : l.length ≤ 2 * i + 1) : cur = l.reverse := by
  obtain ⟨hl, hg⟩ := h
  refine getD_ext_ed (by simp [hl]) (fun k hk => ?_)
  have hk' : k < l.length := by omega
  rw [hg k hk', show l.reverse.getD k ed0 = l.getD (l.length - 1 - k) ed0 by simp [List.getD_eq_getElem?_getD, List.getElem?_reverse hk']]
  split
  · rfl
  · rw [show l.length - 1 - k = k by omega]
set_option maxHeartbeats 4000000 in
theorem reverse_any (w : World) (b : Nat) (a : Option Addr) (n c : Nat) (l : List Ed) (ho : OwE b w (.slice a n c) l) (hn : l.length = n) (hb : n ≤ 1000) : Calls Try.prog 35 #[.slice a n c] w fun e w' => e = .returned (.tuple #[]) ∧ OwE b w' (.slice a n c) l.reverse ∧ Turn (fun q => (Value.slice a n c).ownBlock = some q) w w' := by
  have HO := Lib.hid ho
  have HN := Lib.hid hn
  clear ho hn
  go_enter Try.func35, Try.ntmps35
  go_wp2_with fail
  go_loopw [2, 3] (fun iv jv wr => ∃ (i : Nat) (cur : List Ed), iv = .int .i64 (i : Int) ∧ jv = .int .i64 ((n : Int) - 1 - (i : Int)) ∧ 2 * i ≤ n + 1 ∧ revAt l i cur ∧ OwE b wr (.slice a n c) cur ∧ Turn (fun q => (Value.slice a n c).ownBlock = some q) w wr) (fun iv jv _ => (intOf jv - intOf iv + 1).toNat)
  case atStart => exact ⟨0, l, rfl, by go_num, by omega, ⟨rfl, fun k hk => by rw [if_neg (by omega)]⟩, HO.out, Turn.refl _ _⟩
  case round =>
    obtain ⟨i, cur, rfl, rfl, hi2, hrv, hoc, htr⟩ := hrel
    have HRV := Lib.hid hrv
    have HOC := Lib.hid hoc
    have HT := Lib.hid htr
    clear hrv hoc htr
    by_cases hlt : 2 * i + 1 < n
    · have dl : decide ((i : Int) < (n : Int) - 1 - (i : Int)) = true := decide_eq_true (by omega)
      have hcl : cur.length = n := HRV.out.1.trans HN.out
      obtain ⟨g, rfl, hg1, hg2⟩ := HOC.out.at hcl (by omega)
      obtain ⟨j, hj⟩ : ∃ j : Nat, n - 1 - i = j := ⟨_, rfl⟩
      have hji : (n : Int) - 1 - (i : Int) = (j : Int) := by omega
      have hij : i < j ∧ j < n := by omega
      have gi : (0 : Int) ≤ (i : Int) ∧ (i : Int) < (n : Int) := by omega
      have gj : (0 : Int) ≤ (j : Int) ∧ (j : Int) < (n : Int) := by omega
      obtain ⟨g1, o1, e1, _, hxi⟩ := HOC.out.row.one hcl i (by omega)
      obtain ⟨g2, o2, e2, _, hxj⟩ := HOC.out.row.one hcl j (by omega)
      injection e1 with e1
      injection e1 with e11 e12 _
      subst e11 e12
      injection e2 with e2
      injection e2 with e21 e22 _
      subst e21 e22
      obtain ⟨xi, hxi'⟩ : ∃ xi, cur.getD i ed0 = xi := ⟨_, rfl⟩
      obtain ⟨xj, hxj'⟩ : ∃ xj, cur.getD j ed0 = xj := ⟨_, rfl⟩
      rw [hxi'] at hxi
      rw [hxj'] at hxj
      obtain ⟨wd, hwd⟩ : ∃ wd, wr.drew = wd := ⟨_, rfl⟩
      have hod : OwE b wd (.slice (some ⟨g, 0, none⟩) n c) cur := by rw [← hwd]; exact HOC.out.turn (Turn.refl (fun _ => False) wr).drew (fun _ _ => id)
      have td : Turn (fun q => q = g) wr wd := by rw [← hwd]; exact (Turn.refl (fun q => q = g) wr).drew
      have hxi := rangeAt_turn hxi (show Turn (fun _ => False) wr wd by rw [← hwd]; exact (Turn.refl (fun _ => False) wr).drew) id
      have hxj := rangeAt_turn hxj (show Turn (fun _ => False) wr wd by rw [← hwd]; exact (Turn.refl (fun _ => False) wr).drew) id
      have s1 := hod.set hcl i (by omega) xj
      have t1 := turn_setCells g xj.vals (i * 16) wd
      have th1 := (own_set_ed (show wd.ownsRow b 53 16 (.slice (some ⟨g, 0, none⟩) n c) n (edsV cur) from by have := hod; unfold OwE at this; rwa [hcl] at this) hcl i (by omega) xj).2
      obtain ⟨ws, hws⟩ : ∃ ws, wd.setCells g (i * 16) xj.vals = ws := ⟨_, rfl⟩
      rw [hws] at s1 t1
      have s2 := s1.set (by rw [List.length_set, hcl]) j (by omega) xi
      have t2 := turn_setCells g xi.vals (j * 16) ws
      have th2 := (own_set_ed (show ws.ownsRow b 53 16 (.slice (some ⟨g, 0, none⟩) n c) n (edsV (cur.set i xj)) from by have := s1; unfold OwE at this; rwa [List.length_set, hcl] at this) (by rw [List.length_set, hcl]) j (by omega) xi).2
      obtain ⟨wn, hwn⟩ : ∃ wn, ws.setCells g (j * 16) xi.vals = wn := ⟨_, rfl⟩
      rw [hwn] at s2 t2
      have hst := HRV.out.step (by rw [HN.out]; omega)
      rw [HN.out, hj, hxi', hxj'] at hst
      rw [hji] at dl ⊢
      have HXI := Lib.hid hxi
      have HXJ := Lib.hid hxj
      have S2 := Lib.hid s2
      have TT := Lib.hid ((td.trans t1 (fun _ _ h => h)).trans t2 (fun _ _ h => h))
      have TH1 := Lib.hid th1
      have TH2 := Lib.hid th2
      have HST := Lib.hid hst
      have HIJ := Lib.hid (show 2 * i + 1 < n ∧ (n : Int) - 1 - (i : Int) = (j : Int) from ⟨hlt, hji⟩)
      have HWS := Lib.hid hws
      have HWN := Lib.hid hwn
      have HWD := Lib.hid hwd
      clear s1 t1 th1 s2 t2 th2 hst hlt hi2 hj hod td hws hwn hwd hxi hxj hxi' hxj' hcl hji
      go_wp2_with fail
      refine wp_region_held_drew (S := fun _ => True) (by kernel_rfl) trivial (fun hHeld => ?_)
      rw [HWD.out]
      refine wpAnyH_take (i := 0) (v := .slice (some ⟨g, 0, none⟩) n c) rfl (by kernel_rfl) (by kernel_rfl) (by kernel_rfl) (fun _ _ _ h => h) (Or.inl ⟨by rfl, ?yq1⟩) (by assumption) ?rq1
      case yq1 => (intro wq hSw; (try simp only [List.getElem_toArray, List.getElem_cons_zero, List.getElem_cons_succ]); go_simp; (try with_reducible rfl); all_goals (try omega))
      case rq1 =>
      try simp only [Act.put, List.setIfInBounds_toArray, List.set_cons_zero, List.set_cons_succ, List.getElem_toArray, List.getElem_cons_zero, List.getElem_cons_succ]
      refine wpAnyH_take (i := 1) (v := .int .i64 (i : Int)) rfl (by kernel_rfl) (by kernel_rfl) (by kernel_rfl) (fun _ _ _ h => h) (Or.inl ⟨by rfl, ?yq2⟩) (by assumption) ?rq2
      case yq2 => (intro wq hSw; (try simp only [List.getElem_toArray, List.getElem_cons_zero, List.getElem_cons_succ]); go_simp; (try with_reducible rfl); all_goals (try omega))
      case rq2 =>
      try simp only [Act.put, List.setIfInBounds_toArray, List.set_cons_zero, List.set_cons_succ, List.getElem_toArray, List.getElem_cons_zero, List.getElem_cons_succ]
      refine wpAnyH_take (i := 2) (v := .slice (some ⟨g, 0, none⟩) n c) rfl (by kernel_rfl) (by kernel_rfl) (by kernel_rfl) (fun _ _ _ h => h) (Or.inl ⟨by rfl, ?yq3⟩) (by assumption) ?rq3
      case yq3 => (intro wq hSw; (try simp only [List.getElem_toArray, List.getElem_cons_zero, List.getElem_cons_succ]); go_simp; (try with_reducible rfl); all_goals (try omega))
      case rq3 =>
      try simp only [Act.put, List.setIfInBounds_toArray, List.set_cons_zero, List.set_cons_succ, List.getElem_toArray, List.getElem_cons_zero, List.getElem_cons_succ]
      refine wpAnyH_take (i := 3) (v := .int .i64 (j : Int)) rfl (by kernel_rfl) (by kernel_rfl) (by kernel_rfl) (fun _ _ _ h => h) (Or.inl ⟨by rfl, ?yq4⟩) (by assumption) ?rq4
      case yq4 => (intro wq hSw; (try simp only [List.getElem_toArray, List.getElem_cons_zero, List.getElem_cons_succ]); go_simp; (try with_reducible rfl); all_goals (try omega))
      case rq4 =>
      try simp only [Act.put, List.setIfInBounds_toArray, List.set_cons_zero, List.set_cons_succ, List.getElem_toArray, List.getElem_cons_zero, List.getElem_cons_succ]
      refine wpAnyH_take (i := 4) (v := .slice (some ⟨g, 0, none⟩) n c) rfl (by kernel_rfl) (by kernel_rfl) (by kernel_rfl) (fun _ _ _ h => h) (Or.inl ⟨by rfl, ?yq5⟩) (by assumption) ?rq5
      case yq5 => (intro wq hSw; (try simp only [List.getElem_toArray, List.getElem_cons_zero, List.getElem_cons_succ]); go_simp; (try with_reducible rfl); all_goals (try omega))
      case rq5 =>
      try simp only [Act.put, List.setIfInBounds_toArray, List.set_cons_zero, List.set_cons_succ, List.getElem_toArray, List.getElem_cons_zero, List.getElem_cons_succ]
      refine wpAnyH_take (i := 5) (v := .int .i64 (j : Int)) rfl (by kernel_rfl) (by kernel_rfl) (by kernel_rfl) (fun _ _ _ h => h) (Or.inl ⟨by rfl, ?yq6⟩) (by assumption) ?rq6
      case yq6 => (intro wq hSw; (try simp only [List.getElem_toArray, List.getElem_cons_zero, List.getElem_cons_succ]); go_simp; (try with_reducible rfl); all_goals (try omega))
      case rq6 =>
      try simp only [Act.put, List.setIfInBounds_toArray, List.set_cons_zero, List.set_cons_succ, List.getElem_toArray, List.getElem_cons_zero, List.getElem_cons_succ]
      refine wpAnyH_take (i := 6) (v := .pointer (some ⟨g, j * 16, none⟩)) rfl (by kernel_rfl) (by kernel_rfl) (by kernel_rfl) (fun _ _ _ h => h) (Or.inl ⟨by rfl, ?yq7⟩) (by assumption) ?rq7
      case yq7 => (intro wq hSw; (try simp only [List.getElem_toArray, List.getElem_cons_zero, List.getElem_cons_succ]); go_simp; (try with_reducible rfl); all_goals (try omega))
      case rq7 =>
      try simp only [Act.put, List.setIfInBounds_toArray, List.set_cons_zero, List.set_cons_succ, List.getElem_toArray, List.getElem_cons_zero, List.getElem_cons_succ]
      refine wpAnyH_take (i := 8) (v := .slice (some ⟨g, 0, none⟩) n c) rfl (by kernel_rfl) (by kernel_rfl) (by kernel_rfl) (fun _ _ _ h => h) (Or.inl ⟨by rfl, ?yq8⟩) (by assumption) ?rq8
      case yq8 => (intro wq hSw; (try simp only [List.getElem_toArray, List.getElem_cons_zero, List.getElem_cons_succ]); go_simp; (try with_reducible rfl); all_goals (try omega))
      case rq8 =>
      try simp only [Act.put, List.setIfInBounds_toArray, List.set_cons_zero, List.set_cons_succ, List.getElem_toArray, List.getElem_cons_zero, List.getElem_cons_succ]
      refine wpAnyH_take (i := 9) (v := .int .i64 (i : Int)) rfl (by kernel_rfl) (by kernel_rfl) (by kernel_rfl) (fun _ _ _ h => h) (Or.inl ⟨by rfl, ?yq9⟩) (by assumption) ?rq9
      case yq9 => (intro wq hSw; (try simp only [List.getElem_toArray, List.getElem_cons_zero, List.getElem_cons_succ]); go_simp; (try with_reducible rfl); all_goals (try omega))
      case rq9 =>
      try simp only [Act.put, List.setIfInBounds_toArray, List.set_cons_zero, List.set_cons_succ, List.getElem_toArray, List.getElem_cons_zero, List.getElem_cons_succ]
      refine wpAnyH_take (i := 10) (v := .pointer (some ⟨g, i * 16, none⟩)) rfl (by kernel_rfl) (by kernel_rfl) (by kernel_rfl) (fun _ _ _ h => h) (Or.inl ⟨by rfl, ?yq10⟩) (by assumption) ?rq10
      case yq10 => (intro wq hSw; (try simp only [List.getElem_toArray, List.getElem_cons_zero, List.getElem_cons_succ]); go_simp; (try with_reducible rfl); all_goals (try omega))
      case rq10 =>
      try simp only [Act.put, List.setIfInBounds_toArray, List.set_cons_zero, List.set_cons_succ, List.getElem_toArray, List.getElem_cons_zero, List.getElem_cons_succ]
      refine wpAnyH_ready (rs := [7, 11]) (by kernel_rfl) (by simp) ?_
      refine AllReadyH.cons rfl (fun K hK => ?_) (AllReadyH.cons rfl (fun K hK => ?_) AllReadyH.nil)
      · refine oper_exec _ _ (exec_load_mid _ _ 53 (.tmp 20) rfl g (j * 16) rfl xj.vals _ _ (by have := HXJ.out; rwa [Nat.zero_add] at this) Try.underlying53 rfl ed_info) ?_
        refine hK.out _ _ trivial (fun _ => ?_)
        clear hK K
        try simp only [Act.put, List.setIfInBounds_toArray, List.set_cons_zero, List.set_cons_succ, List.getElem_toArray, List.getElem_cons_zero, List.getElem_cons_succ]
        refine wpAnyH_ready (rs := [11]) (by kernel_rfl) (by simp) ?_
        refine AllReadyH.cons rfl (fun K hK => ?_) AllReadyH.nil
        refine oper_exec _ _ (exec_load_mid _ _ 53 (.tmp 24) rfl g (i * 16) rfl xi.vals _ _ (by have := HXI.out; rwa [Nat.zero_add] at this) Try.underlying53 rfl ed_info) ?_
        refine hK.out _ _ trivial (fun _ => ?_)
        clear hK K
        try simp only [Act.put, List.setIfInBounds_toArray, List.set_cons_zero, List.set_cons_succ, List.getElem_toArray, List.getElem_cons_zero, List.getElem_cons_succ]
        refine wpAnyH_take (i := 12) (v := .pointer (some ⟨g, i * 16, none⟩)) rfl (by kernel_rfl) (by kernel_rfl) (by kernel_rfl) (fun _ _ _ h => h) (Or.inl ⟨by rfl, ?yq11⟩) (by assumption) ?rq11
        case yq11 => (intro wq hSw; (try simp only [List.getElem_toArray, List.getElem_cons_zero, List.getElem_cons_succ]); go_simp; (try with_reducible rfl); all_goals (try omega))
        case rq11 =>
        try simp only [Act.put, List.setIfInBounds_toArray, List.set_cons_zero, List.set_cons_succ, List.getElem_toArray, List.getElem_cons_zero, List.getElem_cons_succ]
        refine wpAnyH_ready (rs := [13]) (by kernel_rfl) (by simp) ?_
        refine AllReadyH.cons rfl (fun K hK => ?_) AllReadyH.nil
        rw [if_pos (by rfl)]
        refine wp_store_mid 53 (.tmp 26) (.tmp 21) rfl g (i * 16) xj.vals.toArray rfl rfl TH1.out ed_info (all_oneCell_toArray xj.vals_one) ?_
        rw [show wd.setCells g (i * 16) xj.vals.toArray.toList = ws from HWS.out]
        refine hK.out _ _ trivial (fun _ => ?_)
        clear hK K
        try simp only [Act.put, List.setIfInBounds_toArray, List.set_cons_zero, List.set_cons_succ, List.getElem_toArray, List.getElem_cons_zero, List.getElem_cons_succ]
        refine wpAnyH_take (i := 14) (v := .pointer (some ⟨g, j * 16, none⟩)) rfl (by kernel_rfl) (by kernel_rfl) (by kernel_rfl) (fun _ _ _ h => h) (Or.inl ⟨by rfl, ?yq12⟩) (by assumption) ?rq12
        case yq12 => (intro wq hSw; (try simp only [List.getElem_toArray, List.getElem_cons_zero, List.getElem_cons_succ]); go_simp; (try with_reducible rfl); all_goals (try omega))
        case rq12 =>
        try simp only [Act.put, List.setIfInBounds_toArray, List.set_cons_zero, List.set_cons_succ, List.getElem_toArray, List.getElem_cons_zero, List.getElem_cons_succ]
        refine wpAnyH_ready (rs := [15]) (by kernel_rfl) (by simp) ?_
        refine AllReadyH.cons rfl (fun K hK => ?_) AllReadyH.nil
        rw [if_pos (by rfl)]
        refine wp_store_mid 53 (.tmp 27) (.tmp 25) rfl g (j * 16) xi.vals.toArray rfl rfl TH2.out ed_info (all_oneCell_toArray xi.vals_one) ?_
        rw [show ws.setCells g (j * 16) xi.vals.toArray.toList = wn from HWN.out]
        refine hK.out _ _ trivial (fun _ => ?_)
        clear hK K
        try simp only [Act.put, List.setIfInBounds_toArray, List.set_cons_zero, List.set_cons_succ, List.getElem_toArray, List.getElem_cons_zero, List.getElem_cons_succ]
        refine wpAnyH_done (by kernel_rfl) ?_ _
        clear hHeld
        go_wp2_with fail
        go_roundw
        case rel => exact ⟨i + 1, _, by go_num, by have := HIJ.out.2; go_num, by have := HIJ.out.1; omega, HST.out, S2.out, HT.out.trans TT.out (fun q hq e => by rw [e]; rfl)⟩
        case measure => have := HIJ.out.1; have := HIJ.out.2; simp [intOf]; omega
      · refine oper_exec _ _ (exec_load_mid _ _ 53 (.tmp 24) rfl g (i * 16) rfl xi.vals _ _ (by have := HXI.out; rwa [Nat.zero_add] at this) Try.underlying53 rfl ed_info) ?_
        refine hK.out _ _ trivial (fun _ => ?_)
        clear hK K
        try simp only [Act.put, List.setIfInBounds_toArray, List.set_cons_zero, List.set_cons_succ, List.getElem_toArray, List.getElem_cons_zero, List.getElem_cons_succ]
        refine wpAnyH_ready (rs := [7]) (by kernel_rfl) (by simp) ?_
        refine AllReadyH.cons rfl (fun K hK => ?_) AllReadyH.nil
        refine oper_exec _ _ (exec_load_mid _ _ 53 (.tmp 20) rfl g (j * 16) rfl xj.vals _ _ (by have := HXJ.out; rwa [Nat.zero_add] at this) Try.underlying53 rfl ed_info) ?_
        refine hK.out _ _ trivial (fun _ => ?_)
        clear hK K
        try simp only [Act.put, List.setIfInBounds_toArray, List.set_cons_zero, List.set_cons_succ, List.getElem_toArray, List.getElem_cons_zero, List.getElem_cons_succ]
        refine wpAnyH_take (i := 12) (v := .pointer (some ⟨g, i * 16, none⟩)) rfl (by kernel_rfl) (by kernel_rfl) (by kernel_rfl) (fun _ _ _ h => h) (Or.inl ⟨by rfl, ?yq13⟩) (by assumption) ?rq13
        case yq13 => (intro wq hSw; (try simp only [List.getElem_toArray, List.getElem_cons_zero, List.getElem_cons_succ]); go_simp; (try with_reducible rfl); all_goals (try omega))
        case rq13 =>
        try simp only [Act.put, List.setIfInBounds_toArray, List.set_cons_zero, List.set_cons_succ, List.getElem_toArray, List.getElem_cons_zero, List.getElem_cons_succ]
        refine wpAnyH_ready (rs := [13]) (by kernel_rfl) (by simp) ?_
        refine AllReadyH.cons rfl (fun K hK => ?_) AllReadyH.nil
        rw [if_pos (by rfl)]
        refine wp_store_mid 53 (.tmp 26) (.tmp 21) rfl g (i * 16) xj.vals.toArray rfl rfl TH1.out ed_info (all_oneCell_toArray xj.vals_one) ?_
        rw [show wd.setCells g (i * 16) xj.vals.toArray.toList = ws from HWS.out]
        refine hK.out _ _ trivial (fun _ => ?_)
        clear hK K
        try simp only [Act.put, List.setIfInBounds_toArray, List.set_cons_zero, List.set_cons_succ, List.getElem_toArray, List.getElem_cons_zero, List.getElem_cons_succ]
        refine wpAnyH_take (i := 14) (v := .pointer (some ⟨g, j * 16, none⟩)) rfl (by kernel_rfl) (by kernel_rfl) (by kernel_rfl) (fun _ _ _ h => h) (Or.inl ⟨by rfl, ?yq14⟩) (by assumption) ?rq14
        case yq14 => (intro wq hSw; (try simp only [List.getElem_toArray, List.getElem_cons_zero, List.getElem_cons_succ]); go_simp; (try with_reducible rfl); all_goals (try omega))
        case rq14 =>
        try simp only [Act.put, List.setIfInBounds_toArray, List.set_cons_zero, List.set_cons_succ, List.getElem_toArray, List.getElem_cons_zero, List.getElem_cons_succ]
        refine wpAnyH_ready (rs := [15]) (by kernel_rfl) (by simp) ?_
        refine AllReadyH.cons rfl (fun K hK => ?_) AllReadyH.nil
        rw [if_pos (by rfl)]
        refine wp_store_mid 53 (.tmp 27) (.tmp 25) rfl g (j * 16) xi.vals.toArray rfl rfl TH2.out ed_info (all_oneCell_toArray xi.vals_one) ?_
        rw [show ws.setCells g (j * 16) xi.vals.toArray.toList = wn from HWN.out]
        refine hK.out _ _ trivial (fun _ => ?_)
        clear hK K
        try simp only [Act.put, List.setIfInBounds_toArray, List.set_cons_zero, List.set_cons_succ, List.getElem_toArray, List.getElem_cons_zero, List.getElem_cons_succ]
        refine wpAnyH_done (by kernel_rfl) ?_ _
        clear hHeld
        go_wp2_with fail
        go_roundw
        case rel => exact ⟨i + 1, _, by go_num, by have := HIJ.out.2; go_num, by have := HIJ.out.1; omega, HST.out, S2.out, HT.out.trans TT.out (fun q hq e => by rw [e]; rfl)⟩
        case measure => have := HIJ.out.1; have := HIJ.out.2; simp [intOf]; omega
    · have dl : decide ((i : Int) < (n : Int) - 1 - (i : Int)) = false := decide_eq_false (by omega)
      have HD := Lib.hid (HRV.out.done (by rw [HN.out]; omega))
      go_wp2_with fail
      go_end0
      exact ⟨rfl, by rw [← HD.out]; exact HOC.out, HT.out⟩

end Go.Proofs.Ytkciaafkhpjnaaa
namespace Go.Proofs.Ytkciaafkhpjnaaa
set_option maxRecDepth 100000
open Go.RowKit
set_option linter.unusedVariables false
set_option linter.unusedSimpArgs false

def mapTo (R : List Ed) (k : Nat) : List Ed := (R.take k).map turnE ++ R.drop k
theorem mapTo_len (R : List Ed) (k : Nat) : (mapTo R k).length = R.length := by simp [mapTo]; omega
theorem mapTo_get (R : List Ed) (k : Nat) (hk : k < R.length) : (mapTo R k).getD k ed0 = R.getD k ed0 := by
  unfold mapTo
  simp only [List.getD_eq_getElem?_getD]
  rw [List.getElem?_append_right (by simp; omega)]
  simp [Nat.min_eq_left (Nat.le_of_lt hk)]
theorem mapTo_set (R : List Ed) (k : Nat) (hk : k < R.length) : (mapTo R k).set k (turnE (R.getD k ed0)) = mapTo R (k + 1) := by
  unfold mapTo
  rw [take_snoc_ed R k hk, List.map_append, List.set_append_right _ _ (by simp; omega)]
  simp only [List.length_map, List.length_take, Nat.min_eq_left (Nat.le_of_lt hk), Nat.sub_self]
  rw [List.drop_eq_getElem_cons hk, List.set_cons_zero]
  simp
theorem mapTo_all (R : List Ed) : mapTo R R.length = R.map turnE := by simp [mapTo]
set_option maxHeartbeats 4000000 in
theorem invert_any (w : World) (v : Value) (l : List Ed) (hv : EdV w v l) (hb : l.length ≤ 1000) : Calls Try.prog 13 #[v] w (NewEds w (invE l)) := by
  have HV := Lib.hid hv
  clear hv
  go_enter Try.func13, Try.ntmps13
  go_wp2_with fail
  refine (clone_eds w _ l HV.out hb).mono ?_
  rintro r w1 ⟨v1, rfl, o1, t1⟩
  obtain ⟨n, hn⟩ : ∃ n, l.length = n := ⟨_, rfl⟩
  obtain ⟨a, c, rfl⟩ : ∃ a c, v1 = .slice a n c := by rw [← hn]; exact own_slice_ed o1
  have HO1 := Lib.hid o1
  have HT1 := Lib.hid t1
  have HN := Lib.hid hn
  have hnb : n ≤ 1000 := by rw [← hn]; exact hb
  clear o1 t1 hn
  go_wp2_with fail
  refine (reverse_any w1 _ a n c l HO1.out HN.out (by rw [← HN.out]; exact hb)).mono ?_
  rintro r w2 ⟨rfl, o2, t2⟩
  have HO2 := Lib.hid o2
  have HT2 := Lib.hid (turn_on_ed (show w1.ownsRow w.heap.size 53 16 _ n (edsV l) from by have := HO1.out; unfold OwE at this; rwa [HN.out] at this) (Nat.le_refl _) HT1.out t2)
  obtain ⟨R, hR⟩ : ∃ R, l.reverse = R := ⟨_, rfl⟩
  have HR := Lib.hid hR
  have HRL := Lib.hid (show R.length = n by rw [← hR, List.length_reverse, HN.out])
  clear o2 t2 hR
  go_wp2_with fail
  go_loopw [12] (fun iv wr => ∃ k : Nat, k ≤ n ∧ iv = .int .i64 (k : Int) ∧ OwE w.heap.size wr (.slice a n c) (mapTo R k) ∧ Turn (fun _ => False) w wr) (fun iv _ => n - (intOf iv).toNat)
  case atStart => exact ⟨0, Nat.zero_le _, rfl, by have := HO2.out; rw [HR.out] at this; simpa [mapTo] using this, HT2.out⟩
  case round =>
    obtain ⟨k, hk, rfl, ho, htr⟩ := hrel
    have HO := Lib.hid ho
    have HT := Lib.hid htr
    clear ho htr
    by_cases hlt : k < n
    · have gi : (0 : Int) ≤ (k : Int) ∧ (k : Int) < (n : Int) := by omega
      have dk : decide ((k : Int) < (n : Int)) = true := decide_eq_true (by omega)
      have hml : (mapTo R k).length = n := by rw [mapTo_len, HRL.out]
      obtain ⟨g, rfl, hg1, hg2⟩ := HO.out.at hml (by omega)
      obtain ⟨g1, o1, e1, _, hx⟩ := HO.out.row.one hml k hlt
      injection e1 with e1
      injection e1 with e11 e12 _
      subst e11 e12
      rw [mapTo_get R k (by rw [HRL.out]; exact hlt)] at hx
      have hst := mapTo_set R k (by rw [HRL.out]; exact hlt)
      obtain ⟨x, hx'⟩ : ∃ x, R.getD k ed0 = x := ⟨_, rfl⟩
      rw [hx'] at hx hst
      have HXR := Lib.hid hx
      have HST := Lib.hid hst
      clear hx hst hx' 
      obtain ⟨B, hB⟩ : ∃ Z, wr.heap.size = Z := ⟨_, rfl⟩
      obtain ⟨wz, hwz⟩ : ∃ wz, wr.alloc (.cells ed0.vals.toArray 53) = wz := ⟨_, rfl⟩
      have hx0 : ∀ ev op, op.op = .alloc 53 → (execOp ev op).run Try.prog wr = .ok (.value (.pointer (some ⟨B, 0, none⟩))) wz := fun ev op ho => by rw [← hwz, ← hB]; exact exec_zero_ed ev op ho _
      have hb0 := box_alloc wr 53 ed0.vals
      rw [hwz] at hb0
      have hh0 := hb0.heap
      rw [hB] at hh0
      have HXX0 := Lib.hid hx0
      have HB0 := Lib.hid hb0
      have HH0 := Lib.hid hh0
      have HE0 := Lib.hid hB
      clear hb0 hB hwz hx0 hh0
      go_wp2_with (with_reducible (show wpList _ _ _ (Oper.mk (some 16) (.load 53 (.tmp 15)) _ _ _ _ :: _) _ _); refine still ?_)
      refine wpList_load_mid rfl 53 (.tmp 15) rfl g (k * 16) rfl x.vals _ (by have := HXR.out; rwa [Nat.zero_add] at this) Try.underlying53 rfl ed_info ?_
      go_wp2_with (with_reducible (show wpList _ _ _ (Oper.mk (some 5) (.alloc 53) _ _ _ _ :: _) _ _); refine still ?_)
      refine list_exec rfl _ _ (HXX0.out _ _ rfl) ?_
      go_wp2_with (with_reducible (show wpList _ _ _ (Oper.mk none (.store 53 (.tmp 5) (.tmp 16)) _ _ _ _ :: _) _ _); refine still ?_)
      refine list_put wz B 53 ed0.vals x.vals HH0.out rfl x.vals_one ed_info rfl (.tmp 5) (.tmp 16) rfl rfl rfl (fun w3 h3 t3 => ?_)
      have H3 := Lib.hid h3
      have T3 := Lib.hid (HB0.out.turn.trans t3 (fun q hq e => by have := HE0.out; omega))
      clear h3 t3
      go_wp2_with (with_reducible (show wpList _ _ _ (Oper.mk (some 19) (.load 53 (.tmp 5)) _ _ _ _ :: _) _ _); refine still ?_)
      refine wpList_load_mid rfl 53 (.tmp 5) rfl B 0 rfl x.vals _ (range_of H3.out) Try.underlying53 rfl ed_info ?_
      go_wp2_with fail
      refine (turned_any x w3).mono ?_
      rintro r w4 ⟨rfl, t4⟩
      have T4 := Lib.hid (T3.out.trans t4 (fun _ _ => id))
      clear t4
      have o4 := HO.out.turn T4.out (fun _ _ => id)
      have th := (own_set_ed (show w4.ownsRow w.heap.size 53 16 (.slice (some ⟨g, 0, none⟩) n c) n (edsV (mapTo R k)) from by have := o4; unfold OwE at this; rwa [hml] at this) hml k hlt (turnE x)).2
      have s4 := o4.set hml k hlt (turnE x)
      rw [HST.out] at s4
      have t5 := turn_setCells g (turnE x).vals (k * 16) w4
      obtain ⟨w5, hw5⟩ : ∃ w5, w4.setCells g (k * 16) (turnE x).vals = w5 := ⟨_, rfl⟩
      rw [hw5] at s4 t5
      have HTH := Lib.hid th
      have HS4 := Lib.hid s4
      have HT5 := Lib.hid ((HT.out.trans T4.out (fun _ _ => id)).trans t5 (fun q hq e => by omega))
      have HW5 := Lib.hid hw5
      clear o4 th s4 t5 hw5
      go_wp2_with (with_reducible (show wpList _ _ _ (Oper.mk none (.store 53 (.tmp 21) (.tmp 20)) _ _ _ _ :: _) _ _); refine still ?_)
      refine wpList_store_mid rfl 53 (.tmp 21) (.tmp 20) rfl g (k * 16) (turnE x).vals.toArray rfl rfl HTH.out ed_info (all_oneCell_toArray (turnE x).vals_one) ?_
      rw [show w4.setCells g (k * 16) (turnE x).vals.toArray.toList = w5 from HW5.out]
      go_wp2_with fail
      go_roundw
      case rel => exact ⟨k + 1, by omega, by go_num, HS4.out, HT5.out⟩
      case measure => simp [intOf]; omega
    · have hke : k = n := by omega
      subst hke
      go_wp2_with fail
      go_ret
      refine ⟨_, rfl, ?_, HT.out⟩
      have e := mapTo_all R
      rw [HRL.out] at e
      have e2 : invE l = mapTo R k := by rw [e, ← HR.out]; rfl
      rw [e2]
      exact HO.out
end Go.Proofs.Ytkciaafkhpjnaaa
namespace Go.Proofs.Ytkciaafkhpjnaaa
set_option maxRecDepth 100000
open Go.RowKit
set_option linter.unusedVariables false
set_option linter.unusedSimpArgs false

theorem place_get {l : List El} {nr : Int} {p : Nat} (hr : Rises l) (h : IsPlace l nr p) : (thereB l nr p = true ∧ getE l nr = some (findX l nr p)) ∨ (thereB l nr p = false ∧ getE l nr = none ∧ findX l nr p = el0) := by
  cases ht : thereB l nr p
  · refine .inr ⟨rfl, getE_none.2 fun x hx e => ?_, by unfold findX; rw [ht]; rfl⟩
    obtain ⟨k, hk, rfl⟩ := List.getElem_of_mem hx
    have hg : l.getD k el0 = l[k] := by simp [List.getD, hk]
    rw [← hg] at e
    have hn : ¬ (p < l.length ∧ (l.getD p el0).id = nr) := by unfold thereB at ht; exact of_decide_eq_false ht
    by_cases h1 : k < p
    · have := h.lo k h1; omega
    · by_cases h2 : k = p
      · subst h2; exact hn ⟨hk, e⟩
      · have h3 := hr.get (i := p) (j := k) (by omega) hk
        have h4 := h.hi p (Nat.le_refl _) (by omega)
        omega
  · have hn : p < l.length ∧ (l.getD p el0).id = nr := by unfold thereB at ht; exact of_decide_eq_true ht
    have e : findX l nr p = l.getD p el0 := by unfold findX; rw [ht]; rfl
    exact .inl ⟨rfl, by rw [e]; exact (getE_iff hr).2 ⟨getD_mem hn.1, hn.2⟩⟩
/-- What Find tells, by the number alone. -/
def Find2 (w : World) (l : List El) (nr : Int) (e : Ending) (w' : World) : Prop := ∃ o b, e = .returned (.tuple #[.agg o.vals.toArray, .bool b]) ∧ ((b = true ∧ getE l nr = some o) ∨ (b = false ∧ getE l nr = none ∧ o = el0)) ∧ Turn (fun _ => False) w w'
theorem find2 (w : World) (v : Value) (l : List El) (nr : Int) (hv : RowV w v l) (hr : Rises l) (hb : l.length ≤ 1000) : Calls Try.prog 48 #[v, .int .i64 nr] w (Find2 w l nr) :=
  (find_any w v l nr hv hr hb).mono fun e w' ⟨p, hp, he, t⟩ => ⟨findX l nr p, thereB l nr p, he, place_get hr hp, t⟩
theorem may_12 {x : Ed} (hid : x.e.id ≠ 0) (ho : x.op = 1 ∨ x.op = 2) : mayB x = decide (x = ⟨x.op, x.e, 0, 0, e0, 0, e0⟩) := by
  obtain ⟨a, e, f, on, os, nn, ns⟩ := x
  simp only at hid ho
  unfold mayB
  simp only [Ed.mk.injEq, true_and, ho]
  rw [decide_eq_true (show e.id ≠ 0 from hid), decide_eq_false (show ¬ (a = 3 ∧ e = El.at e.id) by omega), Bool.true_and, Bool.false_and, Bool.or_false]
  congr 1
  simp only [and_assoc]
theorem may_3 {x : Ed} (hid : x.e.id ≠ 0) (ho : x.op = 3) : mayB x = (decide (x.e = El.at x.e.id) && (fitsB x.f x.on x.os && fitsB x.f x.nn x.ns)) := by
  unfold mayB
  rw [decide_eq_true (show x.e.id ≠ 0 from hid), decide_eq_false (show ¬ ((x.op = 1 ∨ x.op = 2) ∧ x.f = 0 ∧ (x.on = 0 ∧ x.os = e0) ∧ (x.nn = 0 ∧ x.ns = e0)) by omega), Bool.true_and, Bool.false_or]
  simp only [ho, true_and]
theorem may_0 {x : Ed} (ho : x.op ≠ 1 ∧ x.op ≠ 2 ∧ x.op ≠ 3) : mayB x = false := by
  unfold mayB
  rw [decide_eq_false (show ¬ ((x.op = 1 ∨ x.op = 2) ∧ x.f = 0 ∧ (x.on = 0 ∧ x.os = e0) ∧ (x.nn = 0 ∧ x.ns = e0)) by omega), decide_eq_false (show ¬ (x.op = 3 ∧ x.e = El.at x.e.id) by omega)]
  simp
set_option maxHeartbeats 4000000 in
theorem may_any (x : Ed) (w : World) : Calls Try.prog 50 #[.agg x.vals.toArray] w fun e w' => e = .returned (.bool (mayB x)) ∧ Turn (fun _ => False) w w' := by
  have hbx := box_alloc w 53 x.vals
  obtain ⟨X, hX⟩ : ∃ X, w.heap.size = X := ⟨_, rfl⟩
  obtain ⟨w1, hw1⟩ : ∃ w1, w.alloc (.cells x.vals.toArray 53) = w1 := ⟨_, rfl⟩
  rw [hw1] at hbx
  have hh := hbx.heap
  rw [hX] at hh
  have hr := hbx.range
  rw [hX] at hr
  obtain ⟨c0, c1, c3, c11, c12, c14⟩ := edC hr
  simp only [Nat.zero_add] at c0 c1 c3 c11 c12 c14
  have T1 := Lib.hid hbx.turn
  have HR := Lib.hid hr
  have HX := Lib.hid hh
  have HXS := Lib.hid hX
  have HSZ := Lib.hid hbx.size
  clear hbx hr hh
  clear HX HXS HSZ
  by_cases hid : x.e.id = 0
  · have HM := Lib.hid (show mayB x = false by unfold mayB; rw [decide_eq_false (show ¬ x.e.id ≠ 0 by omega)]; rfl)
    have q : (x.e.id == 0) = true := by simpa using hid
    clear hid
    go_enter Try.func50, Try.ntmps50
    go_wp2_with fail
    go_ret
    exact ⟨by rw [HM.out]; rfl, T1.out⟩
  · have q : (x.e.id == 0) = false := by simpa using hid
    by_cases h12 : x.op = 1 ∨ x.op = 2
    · have HM := Lib.hid (may_12 hid h12)
      have HEQ : ∀ ev op, op.op = .binOp .eql 53 (.tmp 12) (.tmp 17) 53 → ev (.tmp 12) = .agg x.vals.toArray → ev (.tmp 17) = .agg (Ed.mk x.op x.e 0 0 e0 0 e0).vals.toArray → ∀ w, (execOp ev op).run Try.prog w = .ok (.value (.bool (mayB x))) w := fun ev op ho h1 h2 w => by rw [HM.out]; exact exec_eql_ed ev op ho x _ w h1 h2
      have HE := Lib.hid HEQ
      clear HEQ hid
      rcases h12 with ho | ho
      · have q1 : (x.op == 1) = true := by rw [ho]; rfl
        clear ho
        go_enter Try.func50, Try.ntmps50
        go_wp2_with (with_reducible (show wpList _ _ _ (Oper.mk (some 12) (.load 53 (.tmp 1)) _ _ _ _ :: _) _ _); refine still ?_)
        refine wpList_load_mid rfl 53 (.tmp 1) rfl X 0 rfl x.vals _ HR.out Try.underlying53 rfl ed_info ?_
        go_wp2_with (with_reducible (show wpList _ _ _ (Oper.mk (some 16) (.load 38 (.tmp 15)) _ _ _ _ :: _) _ _); refine still ?_)
        refine wpList_load_mid rfl 38 (.tmp 15) rfl X 1 rfl x.e.vals _ (by have := edE HR.out; rwa [Nat.zero_add] at this) Try.underlying38 rfl el_info ?_
        go_wp2_with (with_reducible (show wpList _ _ _ (Oper.mk (some 17) (.build 53 _) _ _ _ _ :: _) _ _); refine still ?_)
        refine list_exec rfl _ _ (exec_edB _ _ _ _ x.op x.e rfl rfl rfl _) ?_
        go_wp2_with (with_reducible (show wpList _ _ _ (Oper.mk (some 18) (_) _ _ _ _ :: _) _ _); refine still ?_)
        refine list_exec rfl _ _ (HE.out _ _ rfl rfl rfl _) ?_
        go_wp2_with fail
        go_ret
        exact ⟨rfl, T1.out⟩
      · have q1 : (x.op == 1) = false := by rw [ho]; rfl
        have q2 : (x.op == 2) = true := by rw [ho]; rfl
        clear ho
        go_enter Try.func50, Try.ntmps50
        go_wp2_with (with_reducible (show wpList _ _ _ (Oper.mk (some 12) (.load 53 (.tmp 1)) _ _ _ _ :: _) _ _); refine still ?_)
        refine wpList_load_mid rfl 53 (.tmp 1) rfl X 0 rfl x.vals _ HR.out Try.underlying53 rfl ed_info ?_
        go_wp2_with (with_reducible (show wpList _ _ _ (Oper.mk (some 16) (.load 38 (.tmp 15)) _ _ _ _ :: _) _ _); refine still ?_)
        refine wpList_load_mid rfl 38 (.tmp 15) rfl X 1 rfl x.e.vals _ (by have := edE HR.out; rwa [Nat.zero_add] at this) Try.underlying38 rfl el_info ?_
        go_wp2_with (with_reducible (show wpList _ _ _ (Oper.mk (some 17) (.build 53 _) _ _ _ _ :: _) _ _); refine still ?_)
        refine list_exec rfl _ _ (exec_edB _ _ _ _ x.op x.e rfl rfl rfl _) ?_
        go_wp2_with (with_reducible (show wpList _ _ _ (Oper.mk (some 18) (_) _ _ _ _ :: _) _ _); refine still ?_)
        refine list_exec rfl _ _ (HE.out _ _ rfl rfl rfl _) ?_
        go_wp2_with fail
        go_ret
        exact ⟨rfl, T1.out⟩
    · by_cases ho : x.op = 3
      · have HM := Lib.hid (may_3 hid ho)
        have q1 : (x.op == 1) = false := by rw [ho]; rfl
        have q2 : (x.op == 2) = false := by rw [ho]; rfl
        have q3 : (x.op == 3) = true := by rw [ho]; rfl
        have HEL := Lib.hid (fun ev op (ho : op.op = .binOp .eql 38 (.tmp 22) (.tmp 26) 38) h1 h2 w => exec_eql_el ev op ho x.e (El.at x.e.id) w h1 h2)
        have HF1 := Lib.hid (fun w => fits_any w x.f x.on x.os)
        have HF2 := Lib.hid (fun w => fits_any w x.f x.nn x.ns)
        obtain ⟨B1, hB1⟩ : ∃ B, decide (x.e = El.at x.e.id) = B := ⟨_, rfl⟩
        obtain ⟨F1, hF1⟩ : ∃ B, fitsB x.f x.on x.os = B := ⟨_, rfl⟩
        obtain ⟨F2, hF2⟩ : ∃ B, fitsB x.f x.nn x.ns = B := ⟨_, rfl⟩
        simp only [hB1] at HEL
        simp only [hF1] at HF1
        simp only [hF2] at HF2
        rw [hB1, hF1, hF2] at HM
        clear hid ho hB1 hF1 hF2 h12
        cases B1
        · go_enter Try.func50, Try.ntmps50
          go_wp2_with (with_reducible (show wpList _ _ _ (Oper.mk (some 22) (.load 38 (.tmp 21)) _ _ _ _ :: _) _ _); refine still ?_)
          refine wpList_load_mid rfl 38 (.tmp 21) rfl X 1 rfl x.e.vals _ (by have := edE HR.out; rwa [Nat.zero_add] at this) Try.underlying38 rfl el_info ?_
          go_wp2_with (with_reducible (show wpList _ _ _ (Oper.mk (some 26) (.build 38 _) _ _ _ _ :: _) _ _); refine still ?_)
          refine list_exec rfl _ _ (exec_build_at _ _ _ x.e.id rfl rfl _) ?_
          go_wp2_with (with_reducible (show wpList _ _ _ (Oper.mk (some 27) (_) _ _ _ _ :: _) _ _); refine still ?_)
          refine list_exec rfl _ _ (HEL.out _ _ rfl rfl rfl _) ?_
          go_wp2_with fail
          go_ret
          exact ⟨by rw [HM.out]; rfl, T1.out⟩
        · cases F1
          · go_enter Try.func50, Try.ntmps50
            go_wp2_with (with_reducible (show wpList _ _ _ (Oper.mk (some 22) (.load 38 (.tmp 21)) _ _ _ _ :: _) _ _); refine still ?_)
            refine wpList_load_mid rfl 38 (.tmp 21) rfl X 1 rfl x.e.vals _ (by have := edE HR.out; rwa [Nat.zero_add] at this) Try.underlying38 rfl el_info ?_
            go_wp2_with (with_reducible (show wpList _ _ _ (Oper.mk (some 26) (.build 38 _) _ _ _ _ :: _) _ _); refine still ?_)
            refine list_exec rfl _ _ (exec_build_at _ _ _ x.e.id rfl rfl _) ?_
            go_wp2_with (with_reducible (show wpList _ _ _ (Oper.mk (some 27) (_) _ _ _ _ :: _) _ _); refine still ?_)
            refine list_exec rfl _ _ (HEL.out _ _ rfl rfl rfl _) ?_
            go_wp2_with (with_reducible (show wpList _ _ _ (Oper.mk (some 32) (.load 51 (.tmp 31)) _ _ _ _ :: _) _ _); refine still ?_)
            refine wpList_exec_want (by rfl) _ _ (exec_load_mid _ _ 51 (.tmp 31) rfl X 12 rfl (vl x.on x.os) _ _ (by have := edO HR.out; rwa [Nat.zero_add] at this) Try.underlying51 rfl vl_info) ?_
            go_wp2_with (go_at_call 64; refine (HF1.out w1).mono ?_; rintro r w2 ⟨rfl, t2⟩; have HR2 := Lib.hid (rangeAt_turn HR.out t2 id); have T2 := Lib.hid (T1.out.trans t2 (fun _ _ => id)); clear t2 c0 c1 c3 c11 c12 c14; obtain ⟨c0, c1, c3, c11, c12, c14⟩ := edC HR2.out; simp only [Nat.zero_add] at c0 c1 c3 c11 c12 c14; refine still ?_)
            unfold Still
            go_wp2_with fail
            go_ret
            exact ⟨by rw [HM.out]; rfl, T2.out⟩
          · go_enter Try.func50, Try.ntmps50
            go_wp2_with (with_reducible (show wpList _ _ _ (Oper.mk (some 22) (.load 38 (.tmp 21)) _ _ _ _ :: _) _ _); refine still ?_)
            refine wpList_load_mid rfl 38 (.tmp 21) rfl X 1 rfl x.e.vals _ (by have := edE HR.out; rwa [Nat.zero_add] at this) Try.underlying38 rfl el_info ?_
            go_wp2_with (with_reducible (show wpList _ _ _ (Oper.mk (some 26) (.build 38 _) _ _ _ _ :: _) _ _); refine still ?_)
            refine list_exec rfl _ _ (exec_build_at _ _ _ x.e.id rfl rfl _) ?_
            go_wp2_with (with_reducible (show wpList _ _ _ (Oper.mk (some 27) (_) _ _ _ _ :: _) _ _); refine still ?_)
            refine list_exec rfl _ _ (HEL.out _ _ rfl rfl rfl _) ?_
            go_wp2_with (with_reducible (show wpList _ _ _ (Oper.mk (some 32) (.load 51 (.tmp 31)) _ _ _ _ :: _) _ _); refine still ?_)
            refine wpList_exec_want (by rfl) _ _ (exec_load_mid _ _ 51 (.tmp 31) rfl X 12 rfl (vl x.on x.os) _ _ (by have := edO HR.out; rwa [Nat.zero_add] at this) Try.underlying51 rfl vl_info) ?_
            go_wp2_with (go_at_call 64; refine (HF1.out w1).mono ?_; rintro r w2 ⟨rfl, t2⟩; have HR2 := Lib.hid (rangeAt_turn HR.out t2 id); have T2 := Lib.hid (T1.out.trans t2 (fun _ _ => id)); clear t2 c0 c1 c3 c11 c12 c14; obtain ⟨c0, c1, c3, c11, c12, c14⟩ := edC HR2.out; simp only [Nat.zero_add] at c0 c1 c3 c11 c12 c14; refine still ?_)
            unfold Still
            go_wp2_with (with_reducible (show wpList _ _ _ (Oper.mk (some 39) (.load 51 (.tmp 38)) _ _ _ _ :: _) _ _); refine still ?_)
            refine wpList_exec_want (by rfl) _ _ (exec_load_mid _ _ 51 (.tmp 38) rfl X 14 rfl (vl x.nn x.ns) _ _ (by have := edN HR2.out; rwa [Nat.zero_add] at this) Try.underlying51 rfl vl_info) ?_
            go_wp2_with (go_at_call 64; refine (HF2.out w2).mono ?_; rintro r w3 ⟨rfl, t3⟩)
            go_ret
            exact ⟨by rw [HM.out]; cases F2 <;> rfl, T2.out.trans t3 (fun _ _ => id)⟩
      · have HM := Lib.hid (may_0 (x := x) (by omega))
        have q1 : (x.op == 1) = false := by simpa using (show ¬ x.op = 1 by omega)
        have q2 : (x.op == 2) = false := by simpa using (show ¬ x.op = 2 by omega)
        have q3 : (x.op == 3) = false := by simpa using ho
        clear hid ho h12
        go_enter Try.func50, Try.ntmps50
        go_wp2_with fail
        go_ret
        exact ⟨by rw [HM.out]; rfl, T1.out⟩

end Go.Proofs.Ytkciaafkhpjnaaa
namespace Go.Proofs.Ytkciaafkhpjnaaa
set_option maxRecDepth 100000
open Go.RowKit
set_option linter.unusedVariables false
set_option linter.unusedSimpArgs false

theorem has_any (w : World) (v : Value) (l : List El) (nr : Int) (hv : RowV w v l) (hr : Rises l) (hb : l.length ≤ 1000) : Calls Try.prog 59 #[v, .int .i64 nr] w fun e w' => e = .returned (.bool (hasB l nr)) ∧ Turn (fun _ => False) w w' := by
  have HV := Lib.hid hv
  have HR := Lib.hid hr
  clear hv hr
  go_enter Try.func59, Try.ntmps59
  go_wp2_with fail
  refine (find2 w v l nr HV.out HR.out hb).mono ?_
  rintro r w1 ⟨o, b, rfl, hc, t1⟩
  have T1 := Lib.hid t1
  have HC := Lib.hid hc
  clear t1 hc
  obtain ⟨B, hB⟩ : ∃ Z, w1.heap.size = Z := ⟨_, rfl⟩
  obtain ⟨wz, hwz⟩ : ∃ wz, w1.alloc (.cells el0.vals.toArray 38) = wz := ⟨_, rfl⟩
  have hx0 : ∀ ev op, op.op = .alloc 38 → (execOp ev op).run Try.prog w1 = .ok (.value (.pointer (some ⟨B, 0, none⟩))) wz := fun ev op ho => by rw [← hwz, ← hB]; exact exec_zero24 ev op ho _
  have hb0 := box_alloc w1 38 el0.vals
  rw [hwz] at hb0
  have hh0 := hb0.heap
  rw [hB] at hh0
  have HXX0 := Lib.hid hx0
  have HB0 := Lib.hid hb0
  have HH0 := Lib.hid hh0
  have HE0 := Lib.hid hB
  clear hb0 hB hwz hx0 hh0
  go_wp2_with (with_reducible (show wpList _ _ _ (Oper.mk (some 5) (.alloc 38) _ _ _ _ :: _) _ _); refine still ?_)
  refine list_exec rfl _ _ (HXX0.out _ _ rfl) ?_
  go_wp2_with (with_reducible (show wpList _ _ _ (Oper.mk none (.store 38 (.tmp 5) (.tmp 11)) _ _ _ _ :: _) _ _); refine still ?_)
  refine list_put wz B 38 el0.vals o.vals HH0.out rfl o.vals_one el_info rfl (.tmp 5) (.tmp 11) rfl rfl rfl (fun w3 h3 t3 => ?_)
  have T3 := Lib.hid ((T1.out.trans HB0.out.turn (fun _ _ => id)).trans t3 (fun q hq e => by have := HE0.out; have := T1.out.size; omega))
  clear h3 t3
  have HL := Lib.hid (show hasB l nr = b from by
    unfold hasB
    rcases HC.out with ⟨h1, h2⟩ | ⟨h1, h2, _⟩
    · rw [h1, h2]; simp
    · rw [h1, h2]; simp)
  go_wp2_with fail
  go_ret
  exact ⟨by rw [HL.out]; rfl, T3.out⟩

end Go.Proofs.Ytkciaafkhpjnaaa
