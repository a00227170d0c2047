/- Own contracts: bounds: as many elements as may be. No statement is proved here. -/
import Derived.Test.YtokjlhpkjebnkaaBt
namespace Go.Proofs.Ytokjlhpkjebnkaa
set_option maxRecDepth 100000
open Go.RowKit
set_option linter.unusedVariables false
set_option linter.unusedSimpArgs false


def many (i : Nat) : List El := b0 :: (List.range i).map (fun j : Nat => El.at ((j : Int) + 2))
theorem many_len (i : Nat) : (many i).length = i + 1 := by simp [many]
theorem many_succ (i : Nat) : many (i + 1) = many i ++ [El.at ((i : Int) + 2)] := by simp [many, List.range_succ]
set_option maxHeartbeats 4000000 in
theorem wbounds_0_false (w : World) (how : Int) (hh8 : how.tmod 8 = 0) : Calls Try.prog 9 #[.int .u8 how, .bool false] w fun r w' => r = .returned (.bool true) ∧ Turn (fun _ => False) w w' := by
  go_enter Try.func9, Try.ntmps9
  go_wp2_with (with_reducible (show wpList _ _ _ (Oper.mk (some 13) _ _ _ _ _ :: _) _ _); refine still ?_)
  refine list_exec rfl _ _ (exec_build_nk _ _ (.const (.int .i64 1)) (.const (.int .u8 255)) 1 255 rfl rfl rfl _) ?_
  go_wp2_with (with_reducible (show wpList _ _ _ (Oper.mk (some 14) _ _ _ _ _ :: _) _ _); refine still ?_)
  refine list_exec rfl _ _ (exec_build_one _ _ (.tmp 13) 26 Try.underlying26 rfl b0 rfl _) ?_
  have hbx := box_alloc w 24 b0.vals
  have how1 := one_own w b0 w.heap.size (Nat.le_refl _)
  obtain ⟨G, hG⟩ : ∃ G, w.heap.size = G := ⟨_, rfl⟩
  obtain ⟨w1, hw1⟩ : ∃ w1, w.alloc (.cells b0.vals.toArray 24) = w1 := ⟨_, rfl⟩
  rw [hw1] at hbx how1
  rw [hG, hw1]
  have hh := hbx.heap
  have t1 := hbx.turn
  rw [hG] at hh
  rw [hG] at how1
  have hGw : w.heap.size ≤ G ∧ G ≤ w1.heap.size ∧ w.heap.size = G := ⟨by omega, by have := t1.size; omega, hG⟩
  have HOW := Lib.hid how1
  have HT1 := Lib.hid t1
  have HGW := Lib.hid hGw
  clear hbx how1 hh t1 hG hw1 hGw
  go_wp2_with fail
  go_loopw [6, 7] (fun v iv wr => ∃ i : Nat, i ≤ 39 ∧ iv = .int .i64 (i : Int) ∧ wr.ownsRow G 24 10 v (many i).length (elsV (many i)) ∧ Turn (fun _ => False) w wr) (fun _ iv _ => 39 - (intOf iv).toNat)
  case atStart => exact ⟨0, Nat.zero_le _, rfl, HOW.out, HT1.out⟩
  case round =>
    obtain ⟨i, hi, rfl, ho, htr⟩ := hrel
    have HO := Lib.hid ho
    have HT := Lib.hid htr
    obtain ⟨ra, rc, hrf⟩ := own_slice24 ho
    subst hrf
    clear ho htr
    by_cases hlt : i < 39
    · have dk : decide ((i : Int) < 39) = true := decide_eq_true (by omega)
      obtain ⟨va, wa, hra, hoa, tta, aa, ca, hva⟩ := app_one wr G 26 26 Try.underlying26 _ (many i) (El.at ((i : Int) + 2)) HO.out (by have := HGW.out; have := HT.out.size; omega) (by rw [many_len]; omega)
      have HRA := Lib.hid hra
      have HOA := Lib.hid hoa
      have HTA := Lib.hid (turn_on HO.out HGW.out.1 HT.out tta)
      clear hra hoa tta hva
      go_wp2_with (with_reducible (show wpList _ _ _ (Oper.mk (some 34) _ _ _ _ _ :: _) _ _); refine still ?_)
      refine list_exec rfl _ _ (exec_build_at _ _ (.tmp 33) ((i : Int) + 2) rfl (by first | rfl | (refine congrArg (Value.int _) ?_; go_num)) _) ?_
      go_wp2_with (with_reducible (show wpList _ _ _ (Oper.mk (some 35) _ _ _ _ _ :: _) _ _); refine still ?_)
      refine list_exec rfl _ _ (exec_build_one _ _ (.tmp 34) 26 Try.underlying26 rfl (El.at ((i : Int) + 2)) rfl _) ?_
      go_wp2_with (with_reducible (show wpList _ _ _ (Oper.mk (some 36) _ _ _ _ _ :: _) _ _); refine still ?_)
      refine list_exec rfl _ _ (exec_append _ _ (.tmp 31) (.tmp 35) 26 rfl _ _ _ _ _ rfl rfl HRA.out) ?_
      go_wp2_with fail
      go_roundw
      case rel => exact ⟨i + 1, by omega, by go_num, by rw [many_succ]; exact HOA.out, HTA.out⟩
      case measure => simp [intOf]; omega
    · have dk : decide ((i : Int) < 39) = false := decide_eq_false (by omega)
      obtain rfl : i = 39 := by omega
      have RV := Lib.hid (own_rowV HO.out)
      have HR := Lib.hid (show rightE (many 39) = true by decide +kernel)
      have HK := Lib.hid (show ∀ x ∈ many 39, 0 ≤ x.kind ∧ x.kind ≤ 255 by decide +kernel)
      have hml := many_len 39
      go_wp2_with fail
      refine (encode_any _ _ (many 39) RV.out HK.out (by first | omega | decide | (simp; done))).mono ?_
      rintro e w2 ⟨t2, ⟨h, _⟩ | ⟨_, v, rfl, ho⟩⟩
      · rw [HR.out] at h; cases h
      have RV2 := Lib.hid (RV.out.turn t2 (fun _ _ => id))
      have T2 := Lib.hid (HT.out.trans t2 (fun _ _ => id))
      have HOO := Lib.hid ho
      clear t2 ho
      go_wp2_with fail
      refine (back_any w2 _ v (many 39) HR.out HK.out HOO.out).mono ?_
      rintro e w3 ⟨R, rfl, rv, t3⟩
      have RV3 := Lib.hid (RV2.out.turn t3 (fun _ _ => id))
      have RD3 := Lib.hid rv
      have T3 := Lib.hid (T2.out.trans t3 (fun _ _ => id))
      clear t3 rv
      go_wp2_with fail
      refine (awake10 w3).mono ?_
      rintro e w4 ⟨rfl, t4⟩
      have RV4 := Lib.hid (RV3.out.turn t4 (fun _ _ => id))
      have RD4 := Lib.hid (RD3.out.turn t4 (fun _ _ => id))
      have T4 := Lib.hid (T3.out.trans t4 (fun _ _ => id))
      clear t4
      have hrt := right_any w4 _ (many 39) RV4.out (by first | omega | decide | (simp; done))
      rw [HR.out] at hrt
      have HRT := Lib.hid hrt
      clear hrt
      go_wp2_with (go_at_call 30; refine (HRT.out).mono ?_; rintro e w5 ⟨rfl, t5⟩; have RV5 := Lib.hid (RV4.out.turn t5 (fun _ _ => id)); have RD5 := Lib.hid (RD4.out.turn t5 (fun _ _ => id)); have T5 := Lib.hid (T4.out.trans t5 (fun _ _ => id)); clear t5)
      refine (same_any w5 _ _ (many 39) (many 39) RV5.out RD5.out (by first | omega | decide | (simp; done))).mono ?_
      rintro e w6 ⟨rfl, t6⟩
      rw [decide_eq_true rfl]
      have T6 := Lib.hid (T5.out.trans t6 (fun _ _ => id))
      clear t6
      go_wp2_with fail
      go_ret
      exact ⟨by first | rfl | simp, T6.out⟩
set_option maxHeartbeats 4000000 in
theorem wbounds_0_true (w : World) (how : Int) (hh8 : how.tmod 8 = 0) : Calls Try.prog 9 #[.int .u8 how, .bool true] w fun r w' => r = .returned (.bool true) ∧ Turn (fun _ => False) w w' := by
  go_enter Try.func9, Try.ntmps9
  go_wp2_with (with_reducible (show wpList _ _ _ (Oper.mk (some 13) _ _ _ _ _ :: _) _ _); refine still ?_)
  refine list_exec rfl _ _ (exec_build_nk _ _ (.const (.int .i64 1)) (.const (.int .u8 255)) 1 255 rfl rfl rfl _) ?_
  go_wp2_with (with_reducible (show wpList _ _ _ (Oper.mk (some 14) _ _ _ _ _ :: _) _ _); refine still ?_)
  refine list_exec rfl _ _ (exec_build_one _ _ (.tmp 13) 26 Try.underlying26 rfl b0 rfl _) ?_
  have hbx := box_alloc w 24 b0.vals
  have how1 := one_own w b0 w.heap.size (Nat.le_refl _)
  obtain ⟨G, hG⟩ : ∃ G, w.heap.size = G := ⟨_, rfl⟩
  obtain ⟨w1, hw1⟩ : ∃ w1, w.alloc (.cells b0.vals.toArray 24) = w1 := ⟨_, rfl⟩
  rw [hw1] at hbx how1
  rw [hG, hw1]
  have hh := hbx.heap
  have t1 := hbx.turn
  rw [hG] at hh
  rw [hG] at how1
  have hGw : w.heap.size ≤ G ∧ G ≤ w1.heap.size ∧ w.heap.size = G := ⟨by omega, by have := t1.size; omega, hG⟩
  have HOW := Lib.hid how1
  have HT1 := Lib.hid t1
  have HGW := Lib.hid hGw
  clear hbx how1 hh t1 hG hw1 hGw
  go_wp2_with fail
  go_loopw [6, 7] (fun v iv wr => ∃ i : Nat, i ≤ 40 ∧ iv = .int .i64 (i : Int) ∧ wr.ownsRow G 24 10 v (many i).length (elsV (many i)) ∧ Turn (fun _ => False) w wr) (fun _ iv _ => 40 - (intOf iv).toNat)
  case atStart => exact ⟨0, Nat.zero_le _, rfl, HOW.out, HT1.out⟩
  case round =>
    obtain ⟨i, hi, rfl, ho, htr⟩ := hrel
    have HO := Lib.hid ho
    have HT := Lib.hid htr
    obtain ⟨ra, rc, hrf⟩ := own_slice24 ho
    subst hrf
    clear ho htr
    by_cases hlt : i < 40
    · have dk : decide ((i : Int) < 40) = true := decide_eq_true (by omega)
      obtain ⟨va, wa, hra, hoa, tta, aa, ca, hva⟩ := app_one wr G 26 26 Try.underlying26 _ (many i) (El.at ((i : Int) + 2)) HO.out (by have := HGW.out; have := HT.out.size; omega) (by rw [many_len]; omega)
      have HRA := Lib.hid hra
      have HOA := Lib.hid hoa
      have HTA := Lib.hid (turn_on HO.out HGW.out.1 HT.out tta)
      clear hra hoa tta hva
      go_wp2_with (with_reducible (show wpList _ _ _ (Oper.mk (some 34) _ _ _ _ _ :: _) _ _); refine still ?_)
      refine list_exec rfl _ _ (exec_build_at _ _ (.tmp 33) ((i : Int) + 2) rfl (by first | rfl | (refine congrArg (Value.int _) ?_; go_num)) _) ?_
      go_wp2_with (with_reducible (show wpList _ _ _ (Oper.mk (some 35) _ _ _ _ _ :: _) _ _); refine still ?_)
      refine list_exec rfl _ _ (exec_build_one _ _ (.tmp 34) 26 Try.underlying26 rfl (El.at ((i : Int) + 2)) rfl _) ?_
      go_wp2_with (with_reducible (show wpList _ _ _ (Oper.mk (some 36) _ _ _ _ _ :: _) _ _); refine still ?_)
      refine list_exec rfl _ _ (exec_append _ _ (.tmp 31) (.tmp 35) 26 rfl _ _ _ _ _ rfl rfl HRA.out) ?_
      go_wp2_with fail
      go_roundw
      case rel => exact ⟨i + 1, by omega, by go_num, by rw [many_succ]; exact HOA.out, HTA.out⟩
      case measure => simp [intOf]; omega
    · have dk : decide ((i : Int) < 40) = false := decide_eq_false (by omega)
      obtain rfl : i = 40 := by omega
      have RV := Lib.hid (own_rowV HO.out)
      have HR := Lib.hid (show rightE (many 40) = false by decide +kernel)
      have HK := Lib.hid (show ∀ x ∈ many 40, 0 ≤ x.kind ∧ x.kind ≤ 255 by decide +kernel)
      have hml := many_len 40
      go_wp2_with fail
      refine (encode_any _ _ (many 40) RV.out HK.out (by first | omega | decide | (simp; done))).mono ?_
      rintro e w2 ⟨t2, ⟨_, rfl⟩ | ⟨h, _⟩⟩
      rotate_left
      · rw [HR.out] at h; cases h
      have RV2 := Lib.hid (RV.out.turn t2 (fun _ _ => id))
      have T2 := Lib.hid (HT.out.trans t2 (fun _ _ => id))
      clear t2
      go_wp2_with fail
      refine (lost_any w2).mono ?_
      rintro e w3 ⟨rfl, t3⟩
      have RV3 := Lib.hid (RV2.out.turn t3 (fun _ _ => id))
      have T3 := Lib.hid (T2.out.trans t3 (fun _ _ => id))
      clear t3
      go_wp2_with fail
      refine (awake10 w3).mono ?_
      rintro e w4 ⟨rfl, t4⟩
      have RV4 := Lib.hid (RV3.out.turn t4 (fun _ _ => id))
      have T4 := Lib.hid (T3.out.trans t4 (fun _ _ => id))
      clear t4
      have hrt := right_any w4 _ (many 40) RV4.out (by first | omega | decide | (simp; done))
      rw [HR.out] at hrt
      have HRT := Lib.hid hrt
      clear hrt
      go_wp2_with (go_at_call 30; refine (HRT.out).mono ?_; rintro e w5 ⟨rfl, t5⟩; have T5 := Lib.hid (T4.out.trans t5 (fun _ _ => id)); clear t5)
      go_ret
      exact ⟨by first | rfl | simp, T5.out⟩
end Go.Proofs.Ytokjlhpkjebnkaa
