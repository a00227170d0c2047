/- Own contracts: bounds: the second element. No statement is proved here. -/
import Derived.Test.YtokjlhpkjebnkaaBt
namespace Go.Proofs.Ytokjlhpkjebnkaa
set_option maxRecDepth 100000
open Go.RowKit
set_option linter.unusedVariables false
set_option linter.unusedSimpArgs false

set_option maxHeartbeats 4000000 in
theorem wbounds_7_false (w : World) (how : Int) (hh8 : how.tmod 8 = 7) : Calls Try.prog 9 #[.int .u8 how, .bool false] w fun r w' => r = .returned (.bool true) ∧ Turn (fun _ => False) w w' := by
  go_enter Try.func9, Try.ntmps9
  go_wp2_with (with_reducible (show wpList _ _ _ (Oper.mk (some 13) _ _ _ _ _ :: _) _ _); refine still ?_)
  refine list_exec rfl _ _ (exec_build_nk _ _ (.const (.int .i64 1)) (.const (.int .u8 255)) 1 255 rfl rfl rfl _) ?_
  go_wp2_with (with_reducible (show wpList _ _ _ (Oper.mk (some 14) _ _ _ _ _ :: _) _ _); refine still ?_)
  refine list_exec rfl _ _ (exec_build_one _ _ (.tmp 13) 26 Try.underlying26 rfl b0 rfl _) ?_
  have hbx := box_alloc w 24 b0.vals
  have how1 := one_own w b0 w.heap.size (Nat.le_refl _)
  obtain ⟨G, hG⟩ : ∃ G, w.heap.size = G := ⟨_, rfl⟩
  obtain ⟨w1, hw1⟩ : ∃ w1, w.alloc (.cells b0.vals.toArray 24) = w1 := ⟨_, rfl⟩
  rw [hw1] at hbx how1
  rw [hG, hw1]
  have hh := hbx.heap
  have t1 := hbx.turn
  rw [hG] at hh
  rw [hG] at how1
  have hGw : w.heap.size ≤ G ∧ G ≤ w1.heap.size := ⟨by omega, by have := t1.size; omega⟩
  obtain ⟨va, wa, hra, hoa, tta, aa, ca, hva⟩ := app_one w1 G 26 26 Try.underlying26 (.slice (some ⟨G, 0, none⟩) 1 1) [b0] (El.at 2) how1 hGw.2 (by decide)
  have hva2 : va = .slice aa 2 ca := hva
  subst hva2
  have RV := Lib.hid (own_rowV hoa)
  have HT := Lib.hid (turn_on how1 hGw.1 t1 tta)
  have HR := Lib.hid (show rightE ([b0] ++ [El.at 2]) = true by decide +kernel)
  have HK := Lib.hid (show ∀ x ∈ ([b0] ++ [El.at 2]), 0 ≤ x.kind ∧ x.kind ≤ 255 by decide +kernel)
  have HRA := Lib.hid hra
  clear hbx how1 hh t1 hG hw1 hGw hra hoa tta hva
  go_wp2_with (with_reducible (show wpList _ _ _ (Oper.mk (some 20) _ _ _ _ _ :: _) _ _); refine still ?_)
  refine list_exec rfl _ _ (exec_build_at _ _ (.tmp 19) 2 rfl (by first | rfl | simp) _) ?_
  go_wp2_with (with_reducible (show wpList _ _ _ (Oper.mk (some 21) _ _ _ _ _ :: _) _ _); refine still ?_)
  refine list_exec rfl _ _ (exec_build_one _ _ (.tmp 20) 26 Try.underlying26 rfl (El.at 2) rfl _) ?_
  go_wp2_with (with_reducible (show wpList _ _ _ (Oper.mk (some 22) _ _ _ _ _ :: _) _ _); refine still ?_)
  refine list_exec rfl _ _ (exec_append _ _ (.tmp 17) (.tmp 21) 26 rfl _ _ _ _ _ rfl rfl HRA.out) ?_
  go_wp2_with fail
  refine (encode_any _ _ ([b0] ++ [El.at 2]) RV.out HK.out (by first | decide | (simp; done) | omega)).mono ?_
  rintro e w2 ⟨t2, ⟨h, _⟩ | ⟨_, v, rfl, ho⟩⟩
  · rw [HR.out] at h; cases h
  have RV2 := Lib.hid (RV.out.turn t2 (fun _ _ => id))
  have T2 := Lib.hid (HT.out.trans t2 (fun _ _ => id))
  have HOO := Lib.hid ho
  clear t2 ho
  go_wp2_with fail
  refine (back_any w2 _ v ([b0] ++ [El.at 2]) HR.out HK.out HOO.out).mono ?_
  rintro e w3 ⟨R, rfl, rv, t3⟩
  have RV3 := Lib.hid (RV2.out.turn t3 (fun _ _ => id))
  have RD3 := Lib.hid rv
  have T3 := Lib.hid (T2.out.trans t3 (fun _ _ => id))
  clear t3 rv
  go_wp2_with fail
  refine (awake10 w3).mono ?_
  rintro e w4 ⟨rfl, t4⟩
  have RV4 := Lib.hid (RV3.out.turn t4 (fun _ _ => id))
  have RD4 := Lib.hid (RD3.out.turn t4 (fun _ _ => id))
  have T4 := Lib.hid (T3.out.trans t4 (fun _ _ => id))
  clear t4
  have hrt := right_any w4 _ ([b0] ++ [El.at 2]) RV4.out (by first | decide | (simp; done) | omega)
  rw [HR.out] at hrt
  have HRT := Lib.hid hrt
  clear hrt
  go_wp2_with (go_at_call 30; refine (HRT.out).mono ?_; rintro e w5 ⟨rfl, t5⟩; have RV5 := Lib.hid (RV4.out.turn t5 (fun _ _ => id)); have RD5 := Lib.hid (RD4.out.turn t5 (fun _ _ => id)); have T5 := Lib.hid (T4.out.trans t5 (fun _ _ => id)); clear t5)
  refine (same_any w5 _ _ ([b0] ++ [El.at 2]) ([b0] ++ [El.at 2]) RV5.out RD5.out (by first | decide | (simp; done) | omega)).mono ?_
  rintro e w6 ⟨rfl, t6⟩
  rw [decide_eq_true rfl]
  have T6 := Lib.hid (T5.out.trans t6 (fun _ _ => id))
  clear t6
  go_wp2_with fail
  go_ret
  exact ⟨by first | rfl | simp, T6.out⟩
set_option maxHeartbeats 4000000 in
theorem wbounds_7_true (w : World) (how : Int) (hh8 : how.tmod 8 = 7) : Calls Try.prog 9 #[.int .u8 how, .bool true] w fun r w' => r = .returned (.bool true) ∧ Turn (fun _ => False) w w' := by
  go_enter Try.func9, Try.ntmps9
  go_wp2_with (with_reducible (show wpList _ _ _ (Oper.mk (some 13) _ _ _ _ _ :: _) _ _); refine still ?_)
  refine list_exec rfl _ _ (exec_build_nk _ _ (.const (.int .i64 1)) (.const (.int .u8 255)) 1 255 rfl rfl rfl _) ?_
  go_wp2_with (with_reducible (show wpList _ _ _ (Oper.mk (some 14) _ _ _ _ _ :: _) _ _); refine still ?_)
  refine list_exec rfl _ _ (exec_build_one _ _ (.tmp 13) 26 Try.underlying26 rfl b0 rfl _) ?_
  have hbx := box_alloc w 24 b0.vals
  have how1 := one_own w b0 w.heap.size (Nat.le_refl _)
  obtain ⟨G, hG⟩ : ∃ G, w.heap.size = G := ⟨_, rfl⟩
  obtain ⟨w1, hw1⟩ : ∃ w1, w.alloc (.cells b0.vals.toArray 24) = w1 := ⟨_, rfl⟩
  rw [hw1] at hbx how1
  rw [hG, hw1]
  have hh := hbx.heap
  have t1 := hbx.turn
  rw [hG] at hh
  rw [hG] at how1
  have hGw : w.heap.size ≤ G ∧ G ≤ w1.heap.size := ⟨by omega, by have := t1.size; omega⟩
  obtain ⟨va, wa, hra, hoa, tta, aa, ca, hva⟩ := app_one w1 G 26 26 Try.underlying26 (.slice (some ⟨G, 0, none⟩) 1 1) [b0] (El.at 1) how1 hGw.2 (by decide)
  have hva2 : va = .slice aa 2 ca := hva
  subst hva2
  have RV := Lib.hid (own_rowV hoa)
  have HT := Lib.hid (turn_on how1 hGw.1 t1 tta)
  have HR := Lib.hid (show rightE ([b0] ++ [El.at 1]) = false by decide +kernel)
  have HK := Lib.hid (show ∀ x ∈ ([b0] ++ [El.at 1]), 0 ≤ x.kind ∧ x.kind ≤ 255 by decide +kernel)
  have HRA := Lib.hid hra
  clear hbx how1 hh t1 hG hw1 hGw hra hoa tta hva
  go_wp2_with (with_reducible (show wpList _ _ _ (Oper.mk (some 20) _ _ _ _ _ :: _) _ _); refine still ?_)
  refine list_exec rfl _ _ (exec_build_at _ _ (.tmp 19) 1 rfl (by first | rfl | simp) _) ?_
  go_wp2_with (with_reducible (show wpList _ _ _ (Oper.mk (some 21) _ _ _ _ _ :: _) _ _); refine still ?_)
  refine list_exec rfl _ _ (exec_build_one _ _ (.tmp 20) 26 Try.underlying26 rfl (El.at 1) rfl _) ?_
  go_wp2_with (with_reducible (show wpList _ _ _ (Oper.mk (some 22) _ _ _ _ _ :: _) _ _); refine still ?_)
  refine list_exec rfl _ _ (exec_append _ _ (.tmp 17) (.tmp 21) 26 rfl _ _ _ _ _ rfl rfl HRA.out) ?_
  go_wp2_with fail
  refine (encode_any _ _ ([b0] ++ [El.at 1]) RV.out HK.out (by first | decide | (simp; done) | omega)).mono ?_
  rintro e w2 ⟨t2, ⟨_, rfl⟩ | ⟨h, _⟩⟩
  rotate_left
  · rw [HR.out] at h; cases h
  have RV2 := Lib.hid (RV.out.turn t2 (fun _ _ => id))
  have T2 := Lib.hid (HT.out.trans t2 (fun _ _ => id))
  clear t2
  go_wp2_with fail
  refine (lost_any w2).mono ?_
  rintro e w3 ⟨rfl, t3⟩
  have RV3 := Lib.hid (RV2.out.turn t3 (fun _ _ => id))
  have T3 := Lib.hid (T2.out.trans t3 (fun _ _ => id))
  clear t3
  go_wp2_with fail
  refine (awake10 w3).mono ?_
  rintro e w4 ⟨rfl, t4⟩
  have RV4 := Lib.hid (RV3.out.turn t4 (fun _ _ => id))
  have T4 := Lib.hid (T3.out.trans t4 (fun _ _ => id))
  clear t4
  have hrt := right_any w4 _ ([b0] ++ [El.at 1]) RV4.out (by first | decide | (simp; done) | omega)
  rw [HR.out] at hrt
  have HRT := Lib.hid hrt
  clear hrt
  go_wp2_with (go_at_call 30; refine (HRT.out).mono ?_; rintro e w5 ⟨rfl, t5⟩; have T5 := Lib.hid (T4.out.trans t5 (fun _ _ => id)); clear t5)
  go_ret
  exact ⟨by first | rfl | simp, T5.out⟩
end Go.Proofs.Ytokjlhpkjebnkaa
