/- Own contracts: bounds: numbers. No statement is proved here. -/
import Derived.Test.YtokjlhpkjebnkaaBt
namespace Go.Proofs.Ytokjlhpkjebnkaa
set_option maxRecDepth 100000
open Go.RowKit
set_option linter.unusedVariables false
set_option linter.unusedSimpArgs false

set_option maxHeartbeats 4000000 in
theorem wbounds_1_false (w : World) (how : Int) (hh8 : how.tmod 8 = 1) : Calls Try.prog 9 #[.int .u8 how, .bool false] w fun r w' => r = .returned (.bool true) ∧ Turn (fun _ => False) w w' := by
  go_enter Try.func9, Try.ntmps9
  go_wp2_with (with_reducible (show wpList _ _ _ (Oper.mk (some 13) _ _ _ _ _ :: _) _ _); refine still ?_)
  refine list_exec rfl _ _ (exec_build_nk _ _ (.const (.int .i64 1)) (.const (.int .u8 255)) 1 255 rfl rfl rfl _) ?_
  go_wp2_with (with_reducible (show wpList _ _ _ (Oper.mk (some 14) _ _ _ _ _ :: _) _ _); refine still ?_)
  refine list_exec rfl _ _ (exec_build_one _ _ (.tmp 13) 26 Try.underlying26 rfl b0 rfl _) ?_
  have hbx := box_alloc w 24 b0.vals
  have how1 := one_own w b0 w.heap.size (Nat.le_refl _)
  obtain ⟨G, hG⟩ : ∃ G, w.heap.size = G := ⟨_, rfl⟩
  obtain ⟨w1, hw1⟩ : ∃ w1, w.alloc (.cells b0.vals.toArray 24) = w1 := ⟨_, rfl⟩
  rw [hw1] at hbx how1
  rw [hG, hw1]
  have hh := hbx.heap
  have t1 := hbx.turn
  rw [hG] at hh
  obtain ⟨E, hE⟩ : ∃ E : El, { b0 with id := 1048576 } = E := ⟨_, rfl⟩
  have hEv : b0.vals.toArray.setIfInBounds 0 (.int .i64 1048576) = E.vals.toArray := by rw [← hE]; rfl
  have hX4 := heap_setCell_same w1 G 0 b0.vals.toArray 24 (.int .i64 1048576) hh
  rw [hEv] at hX4
  have t4 : Turn (fun q => q = G) w1 (w1.setCell ⟨G, 0, none⟩ (.int .i64 1048576)) := (Turn.refl (fun q => q = G) w1).setCell (p := ⟨G, 0, none⟩) (fun _ => rfl) _
  obtain ⟨w4, hw4⟩ : ∃ w4, w1.setCell ⟨G, 0, none⟩ (.int .i64 1048576) = w4 := ⟨_, rfl⟩
  rw [hw4] at hX4 t4
  have c1 : w1.cell? ⟨G, 0, none⟩ = some (.int .i64 1) := by rw [cell_of_row w1 G 0 _ 24 (0, 0) hh]; rfl
  have g1 : w1.frozen? ⟨G, 0, none⟩ = false := frozen_of_row w1 G 0 _ 24 hh
  have RV := Lib.hid (one_row hX4)
  have HT := Lib.hid (t1.trans t4 (fun q hq e => by omega))
  have HR := Lib.hid (show rightE [E] = true by rw [← hE]; decide +kernel)
  have HK := Lib.hid (show ∀ x ∈ [E], 0 ≤ x.kind ∧ x.kind ≤ 255 from fun x hx => by rw [List.mem_singleton.1 hx, ← hE]; decide)
  have HG := Lib.hid hG
  clear hbx how1 hh t1 hG hw1 hE hEv hX4 t4
  go_wp2_with fail
  refine (encode_any _ _ [E] RV.out HK.out (by first | decide | (simp; done) | omega)).mono ?_
  rintro e w2 ⟨t2, ⟨h, _⟩ | ⟨_, v, rfl, ho⟩⟩
  · rw [HR.out] at h; cases h
  have RV2 := Lib.hid (RV.out.turn t2 (fun _ _ => id))
  have T2 := Lib.hid (HT.out.trans t2 (fun _ _ => id))
  have HOO := Lib.hid ho
  clear t2 ho
  go_wp2_with fail
  refine (back_any w2 _ v [E] HR.out HK.out HOO.out).mono ?_
  rintro e w3 ⟨R, rfl, rv, t3⟩
  have RV3 := Lib.hid (RV2.out.turn t3 (fun _ _ => id))
  have RD3 := Lib.hid rv
  have T3 := Lib.hid (T2.out.trans t3 (fun _ _ => id))
  clear t3 rv
  go_wp2_with fail
  refine (awake10 w3).mono ?_
  rintro e w4 ⟨rfl, t4⟩
  have RV4 := Lib.hid (RV3.out.turn t4 (fun _ _ => id))
  have RD4 := Lib.hid (RD3.out.turn t4 (fun _ _ => id))
  have T4 := Lib.hid (T3.out.trans t4 (fun _ _ => id))
  clear t4
  have hrt := right_any w4 _ [E] RV4.out (by first | decide | (simp; done) | omega)
  rw [HR.out] at hrt
  have HRT := Lib.hid hrt
  clear hrt
  go_wp2_with (go_at_call 30; refine (HRT.out).mono ?_; rintro e w5 ⟨rfl, t5⟩; have RV5 := Lib.hid (RV4.out.turn t5 (fun _ _ => id)); have RD5 := Lib.hid (RD4.out.turn t5 (fun _ _ => id)); have T5 := Lib.hid (T4.out.trans t5 (fun _ _ => id)); clear t5)
  refine (same_any w5 _ _ [E] [E] RV5.out RD5.out (by first | decide | (simp; done) | omega)).mono ?_
  rintro e w6 ⟨rfl, t6⟩
  rw [decide_eq_true rfl]
  have T6 := Lib.hid (T5.out.trans t6 (fun _ _ => id))
  clear t6
  go_wp2_with fail
  go_ret
  exact ⟨by first | rfl | simp, T6.out⟩
set_option maxHeartbeats 4000000 in
theorem wbounds_1_true (w : World) (how : Int) (hh8 : how.tmod 8 = 1) : Calls Try.prog 9 #[.int .u8 how, .bool true] w fun r w' => r = .returned (.bool true) ∧ Turn (fun _ => False) w w' := by
  go_enter Try.func9, Try.ntmps9
  go_wp2_with (with_reducible (show wpList _ _ _ (Oper.mk (some 13) _ _ _ _ _ :: _) _ _); refine still ?_)
  refine list_exec rfl _ _ (exec_build_nk _ _ (.const (.int .i64 1)) (.const (.int .u8 255)) 1 255 rfl rfl rfl _) ?_
  go_wp2_with (with_reducible (show wpList _ _ _ (Oper.mk (some 14) _ _ _ _ _ :: _) _ _); refine still ?_)
  refine list_exec rfl _ _ (exec_build_one _ _ (.tmp 13) 26 Try.underlying26 rfl b0 rfl _) ?_
  have hbx := box_alloc w 24 b0.vals
  have how1 := one_own w b0 w.heap.size (Nat.le_refl _)
  obtain ⟨G, hG⟩ : ∃ G, w.heap.size = G := ⟨_, rfl⟩
  obtain ⟨w1, hw1⟩ : ∃ w1, w.alloc (.cells b0.vals.toArray 24) = w1 := ⟨_, rfl⟩
  rw [hw1] at hbx how1
  rw [hG, hw1]
  have hh := hbx.heap
  have t1 := hbx.turn
  rw [hG] at hh
  obtain ⟨E, hE⟩ : ∃ E : El, { b0 with id := 1048577 } = E := ⟨_, rfl⟩
  have hEv : b0.vals.toArray.setIfInBounds 0 (.int .i64 1048577) = E.vals.toArray := by rw [← hE]; rfl
  have hX4 := heap_setCell_same w1 G 0 b0.vals.toArray 24 (.int .i64 1048577) hh
  rw [hEv] at hX4
  have t4 : Turn (fun q => q = G) w1 (w1.setCell ⟨G, 0, none⟩ (.int .i64 1048577)) := (Turn.refl (fun q => q = G) w1).setCell (p := ⟨G, 0, none⟩) (fun _ => rfl) _
  obtain ⟨w4, hw4⟩ : ∃ w4, w1.setCell ⟨G, 0, none⟩ (.int .i64 1048577) = w4 := ⟨_, rfl⟩
  rw [hw4] at hX4 t4
  have c1 : w1.cell? ⟨G, 0, none⟩ = some (.int .i64 1) := by rw [cell_of_row w1 G 0 _ 24 (0, 0) hh]; rfl
  have g1 : w1.frozen? ⟨G, 0, none⟩ = false := frozen_of_row w1 G 0 _ 24 hh
  have RV := Lib.hid (one_row hX4)
  have HT := Lib.hid (t1.trans t4 (fun q hq e => by omega))
  have HR := Lib.hid (show rightE [E] = false by rw [← hE]; decide +kernel)
  have HK := Lib.hid (show ∀ x ∈ [E], 0 ≤ x.kind ∧ x.kind ≤ 255 from fun x hx => by rw [List.mem_singleton.1 hx, ← hE]; decide)
  have HG := Lib.hid hG
  clear hbx how1 hh t1 hG hw1 hE hEv hX4 t4
  go_wp2_with fail
  refine (encode_any _ _ [E] RV.out HK.out (by first | decide | (simp; done) | omega)).mono ?_
  rintro e w2 ⟨t2, ⟨_, rfl⟩ | ⟨h, _⟩⟩
  rotate_left
  · rw [HR.out] at h; cases h
  have RV2 := Lib.hid (RV.out.turn t2 (fun _ _ => id))
  have T2 := Lib.hid (HT.out.trans t2 (fun _ _ => id))
  clear t2
  go_wp2_with fail
  refine (lost_any w2).mono ?_
  rintro e w3 ⟨rfl, t3⟩
  have RV3 := Lib.hid (RV2.out.turn t3 (fun _ _ => id))
  have T3 := Lib.hid (T2.out.trans t3 (fun _ _ => id))
  clear t3
  go_wp2_with fail
  refine (awake10 w3).mono ?_
  rintro e w4 ⟨rfl, t4⟩
  have RV4 := Lib.hid (RV3.out.turn t4 (fun _ _ => id))
  have T4 := Lib.hid (T3.out.trans t4 (fun _ _ => id))
  clear t4
  have hrt := right_any w4 _ [E] RV4.out (by first | decide | (simp; done) | omega)
  rw [HR.out] at hrt
  have HRT := Lib.hid hrt
  clear hrt
  go_wp2_with (go_at_call 30; refine (HRT.out).mono ?_; rintro e w5 ⟨rfl, t5⟩; have T5 := Lib.hid (T4.out.trans t5 (fun _ _ => id)); clear t5)
  go_ret
  exact ⟨by first | rfl | simp, T5.out⟩
set_option maxHeartbeats 4000000 in
theorem wbounds_2_false (w : World) (how : Int) (hh8 : how.tmod 8 = 2) : Calls Try.prog 9 #[.int .u8 how, .bool false] w fun r w' => r = .returned (.bool true) ∧ Turn (fun _ => False) w w' := by
  go_enter Try.func9, Try.ntmps9
  go_wp2_with (with_reducible (show wpList _ _ _ (Oper.mk (some 13) _ _ _ _ _ :: _) _ _); refine still ?_)
  refine list_exec rfl _ _ (exec_build_nk _ _ (.const (.int .i64 1)) (.const (.int .u8 255)) 1 255 rfl rfl rfl _) ?_
  go_wp2_with (with_reducible (show wpList _ _ _ (Oper.mk (some 14) _ _ _ _ _ :: _) _ _); refine still ?_)
  refine list_exec rfl _ _ (exec_build_one _ _ (.tmp 13) 26 Try.underlying26 rfl b0 rfl _) ?_
  have hbx := box_alloc w 24 b0.vals
  have how1 := one_own w b0 w.heap.size (Nat.le_refl _)
  obtain ⟨G, hG⟩ : ∃ G, w.heap.size = G := ⟨_, rfl⟩
  obtain ⟨w1, hw1⟩ : ∃ w1, w.alloc (.cells b0.vals.toArray 24) = w1 := ⟨_, rfl⟩
  rw [hw1] at hbx how1
  rw [hG, hw1]
  have hh := hbx.heap
  have t1 := hbx.turn
  rw [hG] at hh
  obtain ⟨E, hE⟩ : ∃ E : El, { b0 with par := 1048576 } = E := ⟨_, rfl⟩
  have hEv : b0.vals.toArray.setIfInBounds 2 (.int .i64 1048576) = E.vals.toArray := by rw [← hE]; rfl
  have hX4 := heap_setCell_same w1 G 2 b0.vals.toArray 24 (.int .i64 1048576) hh
  rw [hEv] at hX4
  have t4 : Turn (fun q => q = G) w1 (w1.setCell ⟨G, 2, none⟩ (.int .i64 1048576)) := (Turn.refl (fun q => q = G) w1).setCell (p := ⟨G, 2, none⟩) (fun _ => rfl) _
  obtain ⟨w4, hw4⟩ : ∃ w4, w1.setCell ⟨G, 2, none⟩ (.int .i64 1048576) = w4 := ⟨_, rfl⟩
  rw [hw4] at hX4 t4
  have c1 : w1.cell? ⟨G, 2, none⟩ = some (.int .i64 0) := by rw [cell_of_row w1 G 2 _ 24 (0, 0) hh]; rfl
  have g1 : w1.frozen? ⟨G, 2, none⟩ = false := frozen_of_row w1 G 2 _ 24 hh
  have RV := Lib.hid (one_row hX4)
  have HT := Lib.hid (t1.trans t4 (fun q hq e => by omega))
  have HR := Lib.hid (show rightE [E] = true by rw [← hE]; decide +kernel)
  have HK := Lib.hid (show ∀ x ∈ [E], 0 ≤ x.kind ∧ x.kind ≤ 255 from fun x hx => by rw [List.mem_singleton.1 hx, ← hE]; decide)
  have HG := Lib.hid hG
  clear hbx how1 hh t1 hG hw1 hE hEv hX4 t4
  go_wp2_with fail
  refine (encode_any _ _ [E] RV.out HK.out (by first | decide | (simp; done) | omega)).mono ?_
  rintro e w2 ⟨t2, ⟨h, _⟩ | ⟨_, v, rfl, ho⟩⟩
  · rw [HR.out] at h; cases h
  have RV2 := Lib.hid (RV.out.turn t2 (fun _ _ => id))
  have T2 := Lib.hid (HT.out.trans t2 (fun _ _ => id))
  have HOO := Lib.hid ho
  clear t2 ho
  go_wp2_with fail
  refine (back_any w2 _ v [E] HR.out HK.out HOO.out).mono ?_
  rintro e w3 ⟨R, rfl, rv, t3⟩
  have RV3 := Lib.hid (RV2.out.turn t3 (fun _ _ => id))
  have RD3 := Lib.hid rv
  have T3 := Lib.hid (T2.out.trans t3 (fun _ _ => id))
  clear t3 rv
  go_wp2_with fail
  refine (awake10 w3).mono ?_
  rintro e w4 ⟨rfl, t4⟩
  have RV4 := Lib.hid (RV3.out.turn t4 (fun _ _ => id))
  have RD4 := Lib.hid (RD3.out.turn t4 (fun _ _ => id))
  have T4 := Lib.hid (T3.out.trans t4 (fun _ _ => id))
  clear t4
  have hrt := right_any w4 _ [E] RV4.out (by first | decide | (simp; done) | omega)
  rw [HR.out] at hrt
  have HRT := Lib.hid hrt
  clear hrt
  go_wp2_with (go_at_call 30; refine (HRT.out).mono ?_; rintro e w5 ⟨rfl, t5⟩; have RV5 := Lib.hid (RV4.out.turn t5 (fun _ _ => id)); have RD5 := Lib.hid (RD4.out.turn t5 (fun _ _ => id)); have T5 := Lib.hid (T4.out.trans t5 (fun _ _ => id)); clear t5)
  refine (same_any w5 _ _ [E] [E] RV5.out RD5.out (by first | decide | (simp; done) | omega)).mono ?_
  rintro e w6 ⟨rfl, t6⟩
  rw [decide_eq_true rfl]
  have T6 := Lib.hid (T5.out.trans t6 (fun _ _ => id))
  clear t6
  go_wp2_with fail
  go_ret
  exact ⟨by first | rfl | simp, T6.out⟩
set_option maxHeartbeats 4000000 in
theorem wbounds_2_true (w : World) (how : Int) (hh8 : how.tmod 8 = 2) : Calls Try.prog 9 #[.int .u8 how, .bool true] w fun r w' => r = .returned (.bool true) ∧ Turn (fun _ => False) w w' := by
  go_enter Try.func9, Try.ntmps9
  go_wp2_with (with_reducible (show wpList _ _ _ (Oper.mk (some 13) _ _ _ _ _ :: _) _ _); refine still ?_)
  refine list_exec rfl _ _ (exec_build_nk _ _ (.const (.int .i64 1)) (.const (.int .u8 255)) 1 255 rfl rfl rfl _) ?_
  go_wp2_with (with_reducible (show wpList _ _ _ (Oper.mk (some 14) _ _ _ _ _ :: _) _ _); refine still ?_)
  refine list_exec rfl _ _ (exec_build_one _ _ (.tmp 13) 26 Try.underlying26 rfl b0 rfl _) ?_
  have hbx := box_alloc w 24 b0.vals
  have how1 := one_own w b0 w.heap.size (Nat.le_refl _)
  obtain ⟨G, hG⟩ : ∃ G, w.heap.size = G := ⟨_, rfl⟩
  obtain ⟨w1, hw1⟩ : ∃ w1, w.alloc (.cells b0.vals.toArray 24) = w1 := ⟨_, rfl⟩
  rw [hw1] at hbx how1
  rw [hG, hw1]
  have hh := hbx.heap
  have t1 := hbx.turn
  rw [hG] at hh
  obtain ⟨E, hE⟩ : ∃ E : El, { b0 with par := 1048577 } = E := ⟨_, rfl⟩
  have hEv : b0.vals.toArray.setIfInBounds 2 (.int .i64 1048577) = E.vals.toArray := by rw [← hE]; rfl
  have hX4 := heap_setCell_same w1 G 2 b0.vals.toArray 24 (.int .i64 1048577) hh
  rw [hEv] at hX4
  have t4 : Turn (fun q => q = G) w1 (w1.setCell ⟨G, 2, none⟩ (.int .i64 1048577)) := (Turn.refl (fun q => q = G) w1).setCell (p := ⟨G, 2, none⟩) (fun _ => rfl) _
  obtain ⟨w4, hw4⟩ : ∃ w4, w1.setCell ⟨G, 2, none⟩ (.int .i64 1048577) = w4 := ⟨_, rfl⟩
  rw [hw4] at hX4 t4
  have c1 : w1.cell? ⟨G, 2, none⟩ = some (.int .i64 0) := by rw [cell_of_row w1 G 2 _ 24 (0, 0) hh]; rfl
  have g1 : w1.frozen? ⟨G, 2, none⟩ = false := frozen_of_row w1 G 2 _ 24 hh
  have RV := Lib.hid (one_row hX4)
  have HT := Lib.hid (t1.trans t4 (fun q hq e => by omega))
  have HR := Lib.hid (show rightE [E] = false by rw [← hE]; decide +kernel)
  have HK := Lib.hid (show ∀ x ∈ [E], 0 ≤ x.kind ∧ x.kind ≤ 255 from fun x hx => by rw [List.mem_singleton.1 hx, ← hE]; decide)
  have HG := Lib.hid hG
  clear hbx how1 hh t1 hG hw1 hE hEv hX4 t4
  go_wp2_with fail
  refine (encode_any _ _ [E] RV.out HK.out (by first | decide | (simp; done) | omega)).mono ?_
  rintro e w2 ⟨t2, ⟨_, rfl⟩ | ⟨h, _⟩⟩
  rotate_left
  · rw [HR.out] at h; cases h
  have RV2 := Lib.hid (RV.out.turn t2 (fun _ _ => id))
  have T2 := Lib.hid (HT.out.trans t2 (fun _ _ => id))
  clear t2
  go_wp2_with fail
  refine (lost_any w2).mono ?_
  rintro e w3 ⟨rfl, t3⟩
  have RV3 := Lib.hid (RV2.out.turn t3 (fun _ _ => id))
  have T3 := Lib.hid (T2.out.trans t3 (fun _ _ => id))
  clear t3
  go_wp2_with fail
  refine (awake10 w3).mono ?_
  rintro e w4 ⟨rfl, t4⟩
  have RV4 := Lib.hid (RV3.out.turn t4 (fun _ _ => id))
  have T4 := Lib.hid (T3.out.trans t4 (fun _ _ => id))
  clear t4
  have hrt := right_any w4 _ [E] RV4.out (by first | decide | (simp; done) | omega)
  rw [HR.out] at hrt
  have HRT := Lib.hid hrt
  clear hrt
  go_wp2_with (go_at_call 30; refine (HRT.out).mono ?_; rintro e w5 ⟨rfl, t5⟩; have T5 := Lib.hid (T4.out.trans t5 (fun _ _ => id)); clear t5)
  go_ret
  exact ⟨by first | rfl | simp, T5.out⟩
set_option maxHeartbeats 4000000 in
theorem wbounds_3_false (w : World) (how : Int) (hh8 : how.tmod 8 = 3) : Calls Try.prog 9 #[.int .u8 how, .bool false] w fun r w' => r = .returned (.bool true) ∧ Turn (fun _ => False) w w' := by
  go_enter Try.func9, Try.ntmps9
  go_wp2_with (with_reducible (show wpList _ _ _ (Oper.mk (some 13) _ _ _ _ _ :: _) _ _); refine still ?_)
  refine list_exec rfl _ _ (exec_build_nk _ _ (.const (.int .i64 1)) (.const (.int .u8 255)) 1 255 rfl rfl rfl _) ?_
  go_wp2_with (with_reducible (show wpList _ _ _ (Oper.mk (some 14) _ _ _ _ _ :: _) _ _); refine still ?_)
  refine list_exec rfl _ _ (exec_build_one _ _ (.tmp 13) 26 Try.underlying26 rfl b0 rfl _) ?_
  have hbx := box_alloc w 24 b0.vals
  have how1 := one_own w b0 w.heap.size (Nat.le_refl _)
  obtain ⟨G, hG⟩ : ∃ G, w.heap.size = G := ⟨_, rfl⟩
  obtain ⟨w1, hw1⟩ : ∃ w1, w.alloc (.cells b0.vals.toArray 24) = w1 := ⟨_, rfl⟩
  rw [hw1] at hbx how1
  rw [hG, hw1]
  have hh := hbx.heap
  have t1 := hbx.turn
  rw [hG] at hh
  obtain ⟨E, hE⟩ : ∃ E : El, { b0 with ord := 1048576 } = E := ⟨_, rfl⟩
  have hEv : b0.vals.toArray.setIfInBounds 3 (.int .i64 1048576) = E.vals.toArray := by rw [← hE]; rfl
  have hX4 := heap_setCell_same w1 G 3 b0.vals.toArray 24 (.int .i64 1048576) hh
  rw [hEv] at hX4
  have t4 : Turn (fun q => q = G) w1 (w1.setCell ⟨G, 3, none⟩ (.int .i64 1048576)) := (Turn.refl (fun q => q = G) w1).setCell (p := ⟨G, 3, none⟩) (fun _ => rfl) _
  obtain ⟨w4, hw4⟩ : ∃ w4, w1.setCell ⟨G, 3, none⟩ (.int .i64 1048576) = w4 := ⟨_, rfl⟩
  rw [hw4] at hX4 t4
  have c1 : w1.cell? ⟨G, 3, none⟩ = some (.int .i64 0) := by rw [cell_of_row w1 G 3 _ 24 (0, 0) hh]; rfl
  have g1 : w1.frozen? ⟨G, 3, none⟩ = false := frozen_of_row w1 G 3 _ 24 hh
  have RV := Lib.hid (one_row hX4)
  have HT := Lib.hid (t1.trans t4 (fun q hq e => by omega))
  have HR := Lib.hid (show rightE [E] = true by rw [← hE]; decide +kernel)
  have HK := Lib.hid (show ∀ x ∈ [E], 0 ≤ x.kind ∧ x.kind ≤ 255 from fun x hx => by rw [List.mem_singleton.1 hx, ← hE]; decide)
  have HG := Lib.hid hG
  clear hbx how1 hh t1 hG hw1 hE hEv hX4 t4
  go_wp2_with fail
  refine (encode_any _ _ [E] RV.out HK.out (by first | decide | (simp; done) | omega)).mono ?_
  rintro e w2 ⟨t2, ⟨h, _⟩ | ⟨_, v, rfl, ho⟩⟩
  · rw [HR.out] at h; cases h
  have RV2 := Lib.hid (RV.out.turn t2 (fun _ _ => id))
  have T2 := Lib.hid (HT.out.trans t2 (fun _ _ => id))
  have HOO := Lib.hid ho
  clear t2 ho
  go_wp2_with fail
  refine (back_any w2 _ v [E] HR.out HK.out HOO.out).mono ?_
  rintro e w3 ⟨R, rfl, rv, t3⟩
  have RV3 := Lib.hid (RV2.out.turn t3 (fun _ _ => id))
  have RD3 := Lib.hid rv
  have T3 := Lib.hid (T2.out.trans t3 (fun _ _ => id))
  clear t3 rv
  go_wp2_with fail
  refine (awake10 w3).mono ?_
  rintro e w4 ⟨rfl, t4⟩
  have RV4 := Lib.hid (RV3.out.turn t4 (fun _ _ => id))
  have RD4 := Lib.hid (RD3.out.turn t4 (fun _ _ => id))
  have T4 := Lib.hid (T3.out.trans t4 (fun _ _ => id))
  clear t4
  have hrt := right_any w4 _ [E] RV4.out (by first | decide | (simp; done) | omega)
  rw [HR.out] at hrt
  have HRT := Lib.hid hrt
  clear hrt
  go_wp2_with (go_at_call 30; refine (HRT.out).mono ?_; rintro e w5 ⟨rfl, t5⟩; have RV5 := Lib.hid (RV4.out.turn t5 (fun _ _ => id)); have RD5 := Lib.hid (RD4.out.turn t5 (fun _ _ => id)); have T5 := Lib.hid (T4.out.trans t5 (fun _ _ => id)); clear t5)
  refine (same_any w5 _ _ [E] [E] RV5.out RD5.out (by first | decide | (simp; done) | omega)).mono ?_
  rintro e w6 ⟨rfl, t6⟩
  rw [decide_eq_true rfl]
  have T6 := Lib.hid (T5.out.trans t6 (fun _ _ => id))
  clear t6
  go_wp2_with fail
  go_ret
  exact ⟨by first | rfl | simp, T6.out⟩
set_option maxHeartbeats 4000000 in
theorem wbounds_3_true (w : World) (how : Int) (hh8 : how.tmod 8 = 3) : Calls Try.prog 9 #[.int .u8 how, .bool true] w fun r w' => r = .returned (.bool true) ∧ Turn (fun _ => False) w w' := by
  go_enter Try.func9, Try.ntmps9
  go_wp2_with (with_reducible (show wpList _ _ _ (Oper.mk (some 13) _ _ _ _ _ :: _) _ _); refine still ?_)
  refine list_exec rfl _ _ (exec_build_nk _ _ (.const (.int .i64 1)) (.const (.int .u8 255)) 1 255 rfl rfl rfl _) ?_
  go_wp2_with (with_reducible (show wpList _ _ _ (Oper.mk (some 14) _ _ _ _ _ :: _) _ _); refine still ?_)
  refine list_exec rfl _ _ (exec_build_one _ _ (.tmp 13) 26 Try.underlying26 rfl b0 rfl _) ?_
  have hbx := box_alloc w 24 b0.vals
  have how1 := one_own w b0 w.heap.size (Nat.le_refl _)
  obtain ⟨G, hG⟩ : ∃ G, w.heap.size = G := ⟨_, rfl⟩
  obtain ⟨w1, hw1⟩ : ∃ w1, w.alloc (.cells b0.vals.toArray 24) = w1 := ⟨_, rfl⟩
  rw [hw1] at hbx how1
  rw [hG, hw1]
  have hh := hbx.heap
  have t1 := hbx.turn
  rw [hG] at hh
  obtain ⟨E, hE⟩ : ∃ E : El, { b0 with ord := 1048577 } = E := ⟨_, rfl⟩
  have hEv : b0.vals.toArray.setIfInBounds 3 (.int .i64 1048577) = E.vals.toArray := by rw [← hE]; rfl
  have hX4 := heap_setCell_same w1 G 3 b0.vals.toArray 24 (.int .i64 1048577) hh
  rw [hEv] at hX4
  have t4 : Turn (fun q => q = G) w1 (w1.setCell ⟨G, 3, none⟩ (.int .i64 1048577)) := (Turn.refl (fun q => q = G) w1).setCell (p := ⟨G, 3, none⟩) (fun _ => rfl) _
  obtain ⟨w4, hw4⟩ : ∃ w4, w1.setCell ⟨G, 3, none⟩ (.int .i64 1048577) = w4 := ⟨_, rfl⟩
  rw [hw4] at hX4 t4
  have c1 : w1.cell? ⟨G, 3, none⟩ = some (.int .i64 0) := by rw [cell_of_row w1 G 3 _ 24 (0, 0) hh]; rfl
  have g1 : w1.frozen? ⟨G, 3, none⟩ = false := frozen_of_row w1 G 3 _ 24 hh
  have RV := Lib.hid (one_row hX4)
  have HT := Lib.hid (t1.trans t4 (fun q hq e => by omega))
  have HR := Lib.hid (show rightE [E] = false by rw [← hE]; decide +kernel)
  have HK := Lib.hid (show ∀ x ∈ [E], 0 ≤ x.kind ∧ x.kind ≤ 255 from fun x hx => by rw [List.mem_singleton.1 hx, ← hE]; decide)
  have HG := Lib.hid hG
  clear hbx how1 hh t1 hG hw1 hE hEv hX4 t4
  go_wp2_with fail
  refine (encode_any _ _ [E] RV.out HK.out (by first | decide | (simp; done) | omega)).mono ?_
  rintro e w2 ⟨t2, ⟨_, rfl⟩ | ⟨h, _⟩⟩
  rotate_left
  · rw [HR.out] at h; cases h
  have RV2 := Lib.hid (RV.out.turn t2 (fun _ _ => id))
  have T2 := Lib.hid (HT.out.trans t2 (fun _ _ => id))
  clear t2
  go_wp2_with fail
  refine (lost_any w2).mono ?_
  rintro e w3 ⟨rfl, t3⟩
  have RV3 := Lib.hid (RV2.out.turn t3 (fun _ _ => id))
  have T3 := Lib.hid (T2.out.trans t3 (fun _ _ => id))
  clear t3
  go_wp2_with fail
  refine (awake10 w3).mono ?_
  rintro e w4 ⟨rfl, t4⟩
  have RV4 := Lib.hid (RV3.out.turn t4 (fun _ _ => id))
  have T4 := Lib.hid (T3.out.trans t4 (fun _ _ => id))
  clear t4
  have hrt := right_any w4 _ [E] RV4.out (by first | decide | (simp; done) | omega)
  rw [HR.out] at hrt
  have HRT := Lib.hid hrt
  clear hrt
  go_wp2_with (go_at_call 30; refine (HRT.out).mono ?_; rintro e w5 ⟨rfl, t5⟩; have T5 := Lib.hid (T4.out.trans t5 (fun _ _ => id)); clear t5)
  go_ret
  exact ⟨by first | rfl | simp, T5.out⟩
set_option maxHeartbeats 4000000 in
theorem wbounds_4_false (w : World) (how : Int) (hh8 : how.tmod 8 = 4) : Calls Try.prog 9 #[.int .u8 how, .bool false] w fun r w' => r = .returned (.bool true) ∧ Turn (fun _ => False) w w' := by
  go_enter Try.func9, Try.ntmps9
  go_wp2_with (with_reducible (show wpList _ _ _ (Oper.mk (some 13) _ _ _ _ _ :: _) _ _); refine still ?_)
  refine list_exec rfl _ _ (exec_build_nk _ _ (.const (.int .i64 1)) (.const (.int .u8 255)) 1 255 rfl rfl rfl _) ?_
  go_wp2_with (with_reducible (show wpList _ _ _ (Oper.mk (some 14) _ _ _ _ _ :: _) _ _); refine still ?_)
  refine list_exec rfl _ _ (exec_build_one _ _ (.tmp 13) 26 Try.underlying26 rfl b0 rfl _) ?_
  have hbx := box_alloc w 24 b0.vals
  have how1 := one_own w b0 w.heap.size (Nat.le_refl _)
  obtain ⟨G, hG⟩ : ∃ G, w.heap.size = G := ⟨_, rfl⟩
  obtain ⟨w1, hw1⟩ : ∃ w1, w.alloc (.cells b0.vals.toArray 24) = w1 := ⟨_, rfl⟩
  rw [hw1] at hbx how1
  rw [hG, hw1]
  have hh := hbx.heap
  have t1 := hbx.turn
  rw [hG] at hh
  obtain ⟨E, hE⟩ : ∃ E : El, { b0 with frm := (0) } = E := ⟨_, rfl⟩
  have hEv : b0.vals.toArray.setIfInBounds 5 (.int .i64 (0)) = E.vals.toArray := by rw [← hE]; rfl
  have hX4 := heap_setCell_same w1 G 5 b0.vals.toArray 24 (.int .i64 (0)) hh
  rw [hEv] at hX4
  have t4 : Turn (fun q => q = G) w1 (w1.setCell ⟨G, 5, none⟩ (.int .i64 (0))) := (Turn.refl (fun q => q = G) w1).setCell (p := ⟨G, 5, none⟩) (fun _ => rfl) _
  obtain ⟨w4, hw4⟩ : ∃ w4, w1.setCell ⟨G, 5, none⟩ (.int .i64 (0)) = w4 := ⟨_, rfl⟩
  rw [hw4] at hX4 t4
  have c1 : w1.cell? ⟨G, 5, none⟩ = some (.int .i64 0) := by rw [cell_of_row w1 G 5 _ 24 (0, 0) hh]; rfl
  have g1 : w1.frozen? ⟨G, 5, none⟩ = false := frozen_of_row w1 G 5 _ 24 hh
  have RV := Lib.hid (one_row hX4)
  have HT := Lib.hid (t1.trans t4 (fun q hq e => by omega))
  have HR := Lib.hid (show rightE [E] = true by rw [← hE]; decide +kernel)
  have HK := Lib.hid (show ∀ x ∈ [E], 0 ≤ x.kind ∧ x.kind ≤ 255 from fun x hx => by rw [List.mem_singleton.1 hx, ← hE]; decide)
  have HG := Lib.hid hG
  clear hbx how1 hh t1 hG hw1 hE hEv hX4 t4
  go_wp2_with fail
  refine (encode_any _ _ [E] RV.out HK.out (by first | decide | (simp; done) | omega)).mono ?_
  rintro e w2 ⟨t2, ⟨h, _⟩ | ⟨_, v, rfl, ho⟩⟩
  · rw [HR.out] at h; cases h
  have RV2 := Lib.hid (RV.out.turn t2 (fun _ _ => id))
  have T2 := Lib.hid (HT.out.trans t2 (fun _ _ => id))
  have HOO := Lib.hid ho
  clear t2 ho
  go_wp2_with fail
  refine (back_any w2 _ v [E] HR.out HK.out HOO.out).mono ?_
  rintro e w3 ⟨R, rfl, rv, t3⟩
  have RV3 := Lib.hid (RV2.out.turn t3 (fun _ _ => id))
  have RD3 := Lib.hid rv
  have T3 := Lib.hid (T2.out.trans t3 (fun _ _ => id))
  clear t3 rv
  go_wp2_with fail
  refine (awake10 w3).mono ?_
  rintro e w4 ⟨rfl, t4⟩
  have RV4 := Lib.hid (RV3.out.turn t4 (fun _ _ => id))
  have RD4 := Lib.hid (RD3.out.turn t4 (fun _ _ => id))
  have T4 := Lib.hid (T3.out.trans t4 (fun _ _ => id))
  clear t4
  have hrt := right_any w4 _ [E] RV4.out (by first | decide | (simp; done) | omega)
  rw [HR.out] at hrt
  have HRT := Lib.hid hrt
  clear hrt
  go_wp2_with (go_at_call 30; refine (HRT.out).mono ?_; rintro e w5 ⟨rfl, t5⟩; have RV5 := Lib.hid (RV4.out.turn t5 (fun _ _ => id)); have RD5 := Lib.hid (RD4.out.turn t5 (fun _ _ => id)); have T5 := Lib.hid (T4.out.trans t5 (fun _ _ => id)); clear t5)
  refine (same_any w5 _ _ [E] [E] RV5.out RD5.out (by first | decide | (simp; done) | omega)).mono ?_
  rintro e w6 ⟨rfl, t6⟩
  rw [decide_eq_true rfl]
  have T6 := Lib.hid (T5.out.trans t6 (fun _ _ => id))
  clear t6
  go_wp2_with fail
  go_ret
  exact ⟨by first | rfl | simp, T6.out⟩
set_option maxHeartbeats 4000000 in
theorem wbounds_4_true (w : World) (how : Int) (hh8 : how.tmod 8 = 4) : Calls Try.prog 9 #[.int .u8 how, .bool true] w fun r w' => r = .returned (.bool true) ∧ Turn (fun _ => False) w w' := by
  go_enter Try.func9, Try.ntmps9
  go_wp2_with (with_reducible (show wpList _ _ _ (Oper.mk (some 13) _ _ _ _ _ :: _) _ _); refine still ?_)
  refine list_exec rfl _ _ (exec_build_nk _ _ (.const (.int .i64 1)) (.const (.int .u8 255)) 1 255 rfl rfl rfl _) ?_
  go_wp2_with (with_reducible (show wpList _ _ _ (Oper.mk (some 14) _ _ _ _ _ :: _) _ _); refine still ?_)
  refine list_exec rfl _ _ (exec_build_one _ _ (.tmp 13) 26 Try.underlying26 rfl b0 rfl _) ?_
  have hbx := box_alloc w 24 b0.vals
  have how1 := one_own w b0 w.heap.size (Nat.le_refl _)
  obtain ⟨G, hG⟩ : ∃ G, w.heap.size = G := ⟨_, rfl⟩
  obtain ⟨w1, hw1⟩ : ∃ w1, w.alloc (.cells b0.vals.toArray 24) = w1 := ⟨_, rfl⟩
  rw [hw1] at hbx how1
  rw [hG, hw1]
  have hh := hbx.heap
  have t1 := hbx.turn
  rw [hG] at hh
  obtain ⟨E, hE⟩ : ∃ E : El, { b0 with frm := (-1) } = E := ⟨_, rfl⟩
  have hEv : b0.vals.toArray.setIfInBounds 5 (.int .i64 (-1)) = E.vals.toArray := by rw [← hE]; rfl
  have hX4 := heap_setCell_same w1 G 5 b0.vals.toArray 24 (.int .i64 (-1)) hh
  rw [hEv] at hX4
  have t4 : Turn (fun q => q = G) w1 (w1.setCell ⟨G, 5, none⟩ (.int .i64 (-1))) := (Turn.refl (fun q => q = G) w1).setCell (p := ⟨G, 5, none⟩) (fun _ => rfl) _
  obtain ⟨w4, hw4⟩ : ∃ w4, w1.setCell ⟨G, 5, none⟩ (.int .i64 (-1)) = w4 := ⟨_, rfl⟩
  rw [hw4] at hX4 t4
  have c1 : w1.cell? ⟨G, 5, none⟩ = some (.int .i64 0) := by rw [cell_of_row w1 G 5 _ 24 (0, 0) hh]; rfl
  have g1 : w1.frozen? ⟨G, 5, none⟩ = false := frozen_of_row w1 G 5 _ 24 hh
  have RV := Lib.hid (one_row hX4)
  have HT := Lib.hid (t1.trans t4 (fun q hq e => by omega))
  have HR := Lib.hid (show rightE [E] = false by rw [← hE]; decide +kernel)
  have HK := Lib.hid (show ∀ x ∈ [E], 0 ≤ x.kind ∧ x.kind ≤ 255 from fun x hx => by rw [List.mem_singleton.1 hx, ← hE]; decide)
  have HG := Lib.hid hG
  clear hbx how1 hh t1 hG hw1 hE hEv hX4 t4
  go_wp2_with fail
  refine (encode_any _ _ [E] RV.out HK.out (by first | decide | (simp; done) | omega)).mono ?_
  rintro e w2 ⟨t2, ⟨_, rfl⟩ | ⟨h, _⟩⟩
  rotate_left
  · rw [HR.out] at h; cases h
  have RV2 := Lib.hid (RV.out.turn t2 (fun _ _ => id))
  have T2 := Lib.hid (HT.out.trans t2 (fun _ _ => id))
  clear t2
  go_wp2_with fail
  refine (lost_any w2).mono ?_
  rintro e w3 ⟨rfl, t3⟩
  have RV3 := Lib.hid (RV2.out.turn t3 (fun _ _ => id))
  have T3 := Lib.hid (T2.out.trans t3 (fun _ _ => id))
  clear t3
  go_wp2_with fail
  refine (awake10 w3).mono ?_
  rintro e w4 ⟨rfl, t4⟩
  have RV4 := Lib.hid (RV3.out.turn t4 (fun _ _ => id))
  have T4 := Lib.hid (T3.out.trans t4 (fun _ _ => id))
  clear t4
  have hrt := right_any w4 _ [E] RV4.out (by first | decide | (simp; done) | omega)
  rw [HR.out] at hrt
  have HRT := Lib.hid hrt
  clear hrt
  go_wp2_with (go_at_call 30; refine (HRT.out).mono ?_; rintro e w5 ⟨rfl, t5⟩; have T5 := Lib.hid (T4.out.trans t5 (fun _ _ => id)); clear t5)
  go_ret
  exact ⟨by first | rfl | simp, T5.out⟩
end Go.Proofs.Ytokjlhpkjebnkaa
