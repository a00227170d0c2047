/- Own contracts: bounds: a text. No statement is proved here. -/
import Derived.Test.YtokjlhpkjebnkaaBt
namespace Go.Proofs.Ytokjlhpkjebnkaa
set_option maxRecDepth 100000
open Go.RowKit
set_option linter.unusedVariables false
set_option linter.unusedSimpArgs false


theorem made_zeros : ∀ k : Nat, k ≤ 2 → madeCells (Value.int .u8 0).cells (k * 1) = (List.replicate k (Value.int .u8 0)).toArray := by
  intro k hk
  have h0 : madeCells (Value.int .u8 0).cells (0 * 1) = (List.replicate 0 (Value.int .u8 0)).toArray := by kernel_rfl
  have h1 : madeCells (Value.int .u8 0).cells (1 * 1) = (List.replicate 1 (Value.int .u8 0)).toArray := by kernel_rfl
  have h2 : madeCells (Value.int .u8 0).cells (2 * 1) = (List.replicate 2 (Value.int .u8 0)).toArray := by kernel_rfl
  rcases (by omega : k = 0 ∨ k = 1 ∨ k = 2) with rfl | rfl | rfl
  · exact h0
  · exact h1
  · exact h2
theorem make_zeros (k : Nat) (hk : k ≤ 2) (w : World) : (Instr.makeSlice 49 (.int .i64 (k : Int)) (.int .i64 (k : Int))).run Try.prog w = .ok (.slice (some ⟨w.heap.size, 0, none⟩) k k) (w.alloc (.cells (List.replicate k (Value.int .u8 0)).toArray 5)) := by
  obtain ⟨i0, hi, hz0, hz1, hz2⟩ := info_parts Try.info5
  have h := run_make (P := Try.prog) w 49 5 i0 _ Try.underlying49 hi hz0 .i64 .i64 (k : Int) (k : Int) (by omega) (Int.le_refl _) (by rw [hz2]; omega) (by omega)
  rw [h, hz1, Int.toNat_natCast, made_zeros k hk]
theorem conv_zeros (k : Nat) (w : World) : (convert 49 9 (.slice (some ⟨w.heap.size, 0, none⟩) k k)).run Try.prog (w.alloc (.cells (List.replicate k (Value.int .u8 0)).toArray 5)) = .ok (.string (strOfNums (List.replicate k 0))) (w.alloc (.cells (List.replicate k (Value.int .u8 0)).toArray 5)) := by
  have hr : Reads (w.alloc (.cells (List.replicate k (Value.int .u8 0)).toArray 5)) (.slice (some ⟨w.heap.size, 0, none⟩) k k) (List.replicate k 0) := by
    refine .inr ⟨w.heap.size, 0, k, by rw [List.length_replicate], by rw [List.length_replicate]; exact Nat.le_refl _, fun i hi => ?_⟩
    rw [List.length_replicate] at hi
    rw [cell_of_row _ _ _ _ 5 (0, 0) (heap_alloc_new w _)]
    simp [List.getD, hi]
  exact hr.conv
def tb : ByteArray := { data := #[116, 119, 101, 108, 118, 101, 32, 98, 121, 116, 101, 115] }
set_option maxHeartbeats 4000000 in
theorem wbounds_6_false (w : World) (how : Int) (hh8 : how.tmod 8 = 6) : Calls Try.prog 9 #[.int .u8 how, .bool false] w fun r w' => r = .returned (.bool true) ∧ Turn (fun _ => False) w w' := by
  go_enter Try.func9, Try.ntmps9
  go_wp2_with (with_reducible (show wpList _ _ _ (Oper.mk (some 13) _ _ _ _ _ :: _) _ _); refine still ?_)
  refine list_exec rfl _ _ (exec_build_nk _ _ (.const (.int .i64 1)) (.const (.int .u8 255)) 1 255 rfl rfl rfl _) ?_
  go_wp2_with (with_reducible (show wpList _ _ _ (Oper.mk (some 14) _ _ _ _ _ :: _) _ _); refine still ?_)
  refine list_exec rfl _ _ (exec_build_one _ _ (.tmp 13) 26 Try.underlying26 rfl b0 rfl _) ?_
  have hbx := box_alloc w 24 b0.vals
  have how1 := one_own w b0 w.heap.size (Nat.le_refl _)
  obtain ⟨G, hG⟩ : ∃ G, w.heap.size = G := ⟨_, rfl⟩
  obtain ⟨w1, hw1⟩ : ∃ w1, w.alloc (.cells b0.vals.toArray 24) = w1 := ⟨_, rfl⟩
  rw [hw1] at hbx how1
  rw [hG, hw1]
  have hh := hbx.heap
  have t1 := hbx.turn
  rw [hG] at hh
  have hmk := make_zeros 0 (by omega) w1
  have hcv := conv_zeros 0 w1
  have tz : Turn (fun _ => False) w1 (w1.alloc (.cells (List.replicate 0 (Value.int .u8 0)).toArray 5)) := (Turn.refl _ w1).alloc _
  obtain ⟨Z, hZ⟩ : ∃ Z, w1.heap.size = Z := ⟨_, rfl⟩
  obtain ⟨wz, hwz⟩ : ∃ wz, w1.alloc (.cells (List.replicate 0 (Value.int .u8 0)).toArray 5) = wz := ⟨_, rfl⟩
  obtain ⟨S, hS⟩ : ∃ S, strOfNums (List.replicate 0 0) = S := ⟨_, rfl⟩
  rw [hZ, hwz] at hmk hcv
  rw [hS] at hcv
  rw [hwz] at tz
  have hsz : S.size = 0 := by rw [← hS]; rfl
  have hh2 := (tz.block G (Array.getElem?_eq_some_iff.1 hh).1 id).trans hh
  have hmk' : (Instr.makeSlice 49 (.int .i64 0) (.int .i64 0)).run Try.prog w1 = .ok (.slice (some ⟨Z, 0, none⟩) 0 0) wz := hmk
  obtain ⟨E, hE⟩ : ∃ E : El, { b0 with ac := tb ++ S } = E := ⟨_, rfl⟩
  have hEv : b0.vals.toArray.setIfInBounds 9 (.string (tb ++ S)) = E.vals.toArray := by rw [← hE]; rfl
  have hX4 := heap_setCell_same wz G 9 b0.vals.toArray 24 (.string (tb ++ S)) hh2
  rw [hEv] at hX4
  have t4 : Turn (fun q => q = G) wz (wz.setCell ⟨G, 9, none⟩ (.string (tb ++ S))) := (Turn.refl (fun q => q = G) wz).setCell (p := ⟨G, 9, none⟩) (fun _ => rfl) _
  have c1 : wz.cell? ⟨G, 9, none⟩ = some (.string e0) := by rw [cell_of_row wz G 9 _ 24 (0, 0) hh2]; rfl
  have g1 : wz.frozen? ⟨G, 9, none⟩ = false := frozen_of_row wz G 9 _ 24 hh2
  have RV := Lib.hid (one_row hX4)
  have HT := Lib.hid ((t1.trans tz (fun _ _ => id)).trans t4 (fun q hq e => by omega))
  have HR := Lib.hid (show rightE [E] = true by rw [← hE, ← hS]; decide +kernel)
  have HK := Lib.hid (show ∀ x ∈ [E], 0 ≤ x.kind ∧ x.kind ≤ 255 from fun x hx => by rw [List.mem_singleton.1 hx, ← hE]; show (0 : Int) ≤ 255 ∧ (255 : Int) ≤ 255; decide)
  clear hbx how1 hh hh2 t1 hG hw1 hE hEv hX4 t4 tz hZ hwz hS hmk
  go_wp2_with fail
  refine (encode_any _ _ [E] RV.out HK.out (by first | omega | decide | (simp; done))).mono ?_
  rintro e w2 ⟨t2, ⟨h, _⟩ | ⟨_, v, rfl, ho⟩⟩
  · rw [HR.out] at h; cases h
  have RV2 := Lib.hid (RV.out.turn t2 (fun _ _ => id))
  have T2 := Lib.hid (HT.out.trans t2 (fun _ _ => id))
  have HOO := Lib.hid ho
  clear t2 ho
  go_wp2_with fail
  refine (back_any w2 _ v [E] HR.out HK.out HOO.out).mono ?_
  rintro e w3 ⟨R, rfl, rv, t3⟩
  have RV3 := Lib.hid (RV2.out.turn t3 (fun _ _ => id))
  have RD3 := Lib.hid rv
  have T3 := Lib.hid (T2.out.trans t3 (fun _ _ => id))
  clear t3 rv
  go_wp2_with fail
  refine (awake10 w3).mono ?_
  rintro e w4 ⟨rfl, t4⟩
  have RV4 := Lib.hid (RV3.out.turn t4 (fun _ _ => id))
  have RD4 := Lib.hid (RD3.out.turn t4 (fun _ _ => id))
  have T4 := Lib.hid (T3.out.trans t4 (fun _ _ => id))
  clear t4
  have hrt := right_any w4 _ [E] RV4.out (by first | omega | decide | (simp; done))
  rw [HR.out] at hrt
  have HRT := Lib.hid hrt
  clear hrt
  go_wp2_with (go_at_call 30; refine (HRT.out).mono ?_; rintro e w5 ⟨rfl, t5⟩; have RV5 := Lib.hid (RV4.out.turn t5 (fun _ _ => id)); have RD5 := Lib.hid (RD4.out.turn t5 (fun _ _ => id)); have T5 := Lib.hid (T4.out.trans t5 (fun _ _ => id)); clear t5)
  refine (same_any w5 _ _ [E] [E] RV5.out RD5.out (by first | omega | decide | (simp; done))).mono ?_
  rintro e w6 ⟨rfl, t6⟩
  rw [decide_eq_true rfl]
  have T6 := Lib.hid (T5.out.trans t6 (fun _ _ => id))
  clear t6
  go_wp2_with fail
  go_ret
  exact ⟨by first | rfl | simp, T6.out⟩
set_option maxHeartbeats 4000000 in
theorem wbounds_6_true (w : World) (how : Int) (hh8 : how.tmod 8 = 6) : Calls Try.prog 9 #[.int .u8 how, .bool true] w fun r w' => r = .returned (.bool true) ∧ Turn (fun _ => False) w w' := by
  go_enter Try.func9, Try.ntmps9
  go_wp2_with (with_reducible (show wpList _ _ _ (Oper.mk (some 13) _ _ _ _ _ :: _) _ _); refine still ?_)
  refine list_exec rfl _ _ (exec_build_nk _ _ (.const (.int .i64 1)) (.const (.int .u8 255)) 1 255 rfl rfl rfl _) ?_
  go_wp2_with (with_reducible (show wpList _ _ _ (Oper.mk (some 14) _ _ _ _ _ :: _) _ _); refine still ?_)
  refine list_exec rfl _ _ (exec_build_one _ _ (.tmp 13) 26 Try.underlying26 rfl b0 rfl _) ?_
  have hbx := box_alloc w 24 b0.vals
  have how1 := one_own w b0 w.heap.size (Nat.le_refl _)
  obtain ⟨G, hG⟩ : ∃ G, w.heap.size = G := ⟨_, rfl⟩
  obtain ⟨w1, hw1⟩ : ∃ w1, w.alloc (.cells b0.vals.toArray 24) = w1 := ⟨_, rfl⟩
  rw [hw1] at hbx how1
  rw [hG, hw1]
  have hh := hbx.heap
  have t1 := hbx.turn
  rw [hG] at hh
  have hmk := make_zeros 1 (by omega) w1
  have hcv := conv_zeros 1 w1
  have tz : Turn (fun _ => False) w1 (w1.alloc (.cells (List.replicate 1 (Value.int .u8 0)).toArray 5)) := (Turn.refl _ w1).alloc _
  obtain ⟨Z, hZ⟩ : ∃ Z, w1.heap.size = Z := ⟨_, rfl⟩
  obtain ⟨wz, hwz⟩ : ∃ wz, w1.alloc (.cells (List.replicate 1 (Value.int .u8 0)).toArray 5) = wz := ⟨_, rfl⟩
  obtain ⟨S, hS⟩ : ∃ S, strOfNums (List.replicate 1 0) = S := ⟨_, rfl⟩
  rw [hZ, hwz] at hmk hcv
  rw [hS] at hcv
  rw [hwz] at tz
  have hsz : S.size = 1 := by rw [← hS]; rfl
  have hh2 := (tz.block G (Array.getElem?_eq_some_iff.1 hh).1 id).trans hh
  have hmk' : (Instr.makeSlice 49 (.int .i64 1) (.int .i64 1)).run Try.prog w1 = .ok (.slice (some ⟨Z, 0, none⟩) 1 1) wz := hmk
  obtain ⟨E, hE⟩ : ∃ E : El, { b0 with ac := tb ++ S } = E := ⟨_, rfl⟩
  have hEv : b0.vals.toArray.setIfInBounds 9 (.string (tb ++ S)) = E.vals.toArray := by rw [← hE]; rfl
  have hX4 := heap_setCell_same wz G 9 b0.vals.toArray 24 (.string (tb ++ S)) hh2
  rw [hEv] at hX4
  have t4 : Turn (fun q => q = G) wz (wz.setCell ⟨G, 9, none⟩ (.string (tb ++ S))) := (Turn.refl (fun q => q = G) wz).setCell (p := ⟨G, 9, none⟩) (fun _ => rfl) _
  have c1 : wz.cell? ⟨G, 9, none⟩ = some (.string e0) := by rw [cell_of_row wz G 9 _ 24 (0, 0) hh2]; rfl
  have g1 : wz.frozen? ⟨G, 9, none⟩ = false := frozen_of_row wz G 9 _ 24 hh2
  have RV := Lib.hid (one_row hX4)
  have HT := Lib.hid ((t1.trans tz (fun _ _ => id)).trans t4 (fun q hq e => by omega))
  have HR := Lib.hid (show rightE [E] = false by rw [← hE, ← hS]; decide +kernel)
  have HK := Lib.hid (show ∀ x ∈ [E], 0 ≤ x.kind ∧ x.kind ≤ 255 from fun x hx => by rw [List.mem_singleton.1 hx, ← hE]; show (0 : Int) ≤ 255 ∧ (255 : Int) ≤ 255; decide)
  clear hbx how1 hh hh2 t1 hG hw1 hE hEv hX4 t4 tz hZ hwz hS hmk
  go_wp2_with fail
  refine (encode_any _ _ [E] RV.out HK.out (by first | omega | decide | (simp; done))).mono ?_
  rintro e w2 ⟨t2, ⟨_, rfl⟩ | ⟨h, _⟩⟩
  rotate_left
  · rw [HR.out] at h; cases h
  have RV2 := Lib.hid (RV.out.turn t2 (fun _ _ => id))
  have T2 := Lib.hid (HT.out.trans t2 (fun _ _ => id))
  clear t2
  go_wp2_with fail
  refine (lost_any w2).mono ?_
  rintro e w3 ⟨rfl, t3⟩
  have RV3 := Lib.hid (RV2.out.turn t3 (fun _ _ => id))
  have T3 := Lib.hid (T2.out.trans t3 (fun _ _ => id))
  clear t3
  go_wp2_with fail
  refine (awake10 w3).mono ?_
  rintro e w4 ⟨rfl, t4⟩
  have RV4 := Lib.hid (RV3.out.turn t4 (fun _ _ => id))
  have T4 := Lib.hid (T3.out.trans t4 (fun _ _ => id))
  clear t4
  have hrt := right_any w4 _ [E] RV4.out (by first | omega | decide | (simp; done))
  rw [HR.out] at hrt
  have HRT := Lib.hid hrt
  clear hrt
  go_wp2_with (go_at_call 30; refine (HRT.out).mono ?_; rintro e w5 ⟨rfl, t5⟩; have T5 := Lib.hid (T4.out.trans t5 (fun _ _ => id)); clear t5)
  go_ret
  exact ⟨by first | rfl | simp, T5.out⟩
end Go.Proofs.Ytokjlhpkjebnkaa
