/- Own contracts: sides: the law. No statement is proved here. -/
import Derived.Test.YtifhnidcodhoeaaSdk
namespace Go.Proofs.Ytifhnidcodhoeaa
set_option maxRecDepth 100000
open Go.RowKit
set_option linter.unusedVariables false
set_option linter.unusedSimpArgs false

set_option maxHeartbeats 8000000 in
theorem sides_law (w : World) (nn : Int) (other : Bool) (kd : Int) (hh : 0 ≤ nn ∧ nn < 256) (hk : 0 ≤ kd ∧ kd < 256) : Calls Try.prog 8 #[.int .u8 nn, .bool other, .int .u8 kd] w fun e w' => e = .returned (.bool true) ∧ Turn (fun _ => False) w w' := by
  have hm : nn.tmod 5 = nn % 5 := Int.tmod_eq_emod_of_nonneg hh.1
  have hm2 : kd.tmod 2 = kd % 2 := Int.tmod_eq_emod_of_nonneg hk.1
  obtain ⟨Q, hQ⟩ : ∃ Q : Int, nn.tmod 5 = Q := ⟨_, rfl⟩
  have hq : 0 ≤ Q ∧ Q < 5 := by omega
  obtain ⟨q, hqe⟩ : ∃ q : Nat, Q = (q : Int) := ⟨Q.toNat, by omega⟩
  have hC := sid_check ⟨q, by omega⟩
  obtain ⟨K, hK⟩ : ∃ K : Nat, q + 1 = K := ⟨_, rfl⟩
  simp only [hK] at hC
  have HC := Lib.hid hC
  have HK := Lib.hid (show 1 ≤ K ∧ K ≤ 5 by omega)
  have HKD := Lib.hid (show kd.tmod 2 = 0 ∨ kd.tmod 2 = 1 by omega)
  obtain ⟨P, hP⟩ : ∃ P : Int, 1 + Q = P := ⟨_, rfl⟩
  have HQK := Lib.hid hP
  have HP := Lib.hid (show P = (K : Int) by omega)
  clear hh hk hm hm2 hC hK hqe hP
  have ho := own_alloc w [(El.mk 1 1 0 0 ({ data := #[116, 111, 112] } : ByteArray) 0 0 ByteArray.empty ByteArray.empty ByteArray.empty)] (by decide)
  have t1 := turn_alloc w 35 (elsV [(El.mk 1 1 0 0 ({ data := #[116, 111, 112] } : ByteArray) 0 0 ByteArray.empty ByteArray.empty ByteArray.empty)])
  obtain ⟨w1, hw1⟩ : ∃ w1, w.alloc (.cells (elsV [(El.mk 1 1 0 0 ({ data := #[116, 111, 112] } : ByteArray) 0 0 ByteArray.empty ByteArray.empty ByteArray.empty)]).toArray 35) = w1 := ⟨_, rfl⟩
  have hbl : ∀ ev op, op.op = .buildSlice 23 1 #[(0, .tmp 16)] → ev (.tmp 16) = .agg (El.mk 1 1 0 0 ({ data := #[116, 111, 112] } : ByteArray) 0 0 ByteArray.empty ByteArray.empty ByteArray.empty).vals.toArray → (execOp ev op).run Try.prog w = .ok (.value (.slice (some ⟨w.heap.size, 0, none⟩) 1 1)) w1 := fun ev op ho hy => by rw [← hw1]; exact exec_build_one ev op _ 23 Try.underlying23 ho (El.mk 1 1 0 0 ({ data := #[116, 111, 112] } : ByteArray) 0 0 ByteArray.empty ByteArray.empty ByteArray.empty) hy w
  rw [hw1] at ho t1
  have HO1 := Lib.hid (show OwV w.heap.size w1 (.slice (some ⟨w.heap.size, 0, none⟩) 1 1) (regL 0) from ho)
  have T1 := Lib.hid t1
  have HBL := Lib.hid hbl
  clear ho t1 hw1 hbl
  go_enter Try.func8, Try.ntmps8
  go_wp2_with (with_reducible (show wpList _ _ _ (Oper.mk (some 16) (.build 35 _) _ _ _ _ :: _) _ _); refine still ?_)
  refine list_exec rfl _ _ (exec_el014 _ _ _ _ _ 1 1 ({ data := #[116, 111, 112] } : ByteArray) rfl rfl rfl rfl _) ?_
  go_wp2_with (with_reducible (show wpList _ _ _ (Oper.mk (some 17) (.buildSlice 23 _ _) _ _ _ _ :: _) _ _); refine still ?_)
  refine list_exec rfl _ _ (HBL.out _ _ rfl rfl) ?_
  go_wp2_with fail
  clear hQ hq
  rw [HQK.out]
  go_loopw [8, 9] (fun cv iv wr => ∃ m : Nat, m ≤ K ∧ iv = .int .i64 (m : Int) ∧ OwV w.heap.size wr cv (regL m) ∧ Turn (fun _ => False) w wr) (fun _ iv _ => (P - intOf iv).toNat)
  case atStart => exact ⟨0, Nat.zero_le _, rfl, HO1.out, T1.out⟩
  case round =>
    obtain ⟨m, hmK, rfl, how, htr⟩ := hrel
    obtain ⟨ca, cc, hform⟩ := how.form
    subst hform
    simp only [regL_len] at how ⊢
    obtain ⟨N, hN⟩ : ∃ N, m + 1 = N := ⟨_, rfl⟩
    rw [hN] at how
    rw [hN]
    have HO := Lib.hid how
    have HT := Lib.hid htr
    clear how htr
    by_cases hlt : m < K
    · obtain ⟨I, hI⟩ : ∃ I : Int, (m : Int) = I := ⟨_, rfl⟩
      rw [hI]
      have hcs : I = 0 ∨ I = 1 ∨ I = 2 ∨ I = 3 ∨ I = 4 := by have := HK.out; omega
      have dk : decide (I < P) = true := decide_eq_true (by have := HP.out; omega)
      rcases hcs with rfl | rfl | rfl | rfl | rfl
      · have hb := box_alloc wr 5 [.int .u8 97]
        have hr : Reads (wr.alloc (.cells #[.int .u8 97] 5)) (.slice (some ⟨wr.heap.size, 0, none⟩) 1 1) [97] := by
          refine .inr ⟨wr.heap.size, 0, 1, rfl, Nat.le_refl _, fun i hi => ?_⟩
          rw [cell_of_row _ _ _ _ 5 (0, 0) (heap_alloc_new wr _)]
          have : i = 0 := by simp at hi; omega
          subst this; rfl
        have hcv := hr.conv
        have t1 : Turn (fun _ => False) wr (wr.alloc (.cells #[.int .u8 97] 5)) := hb.turn
        obtain ⟨wo, hwo⟩ : ∃ wo, wr.alloc (.cells #[.int .u8 97] 5) = wo := ⟨_, rfl⟩
        rw [hwo] at hcv t1
        obtain ⟨S, hS⟩ : ∃ S, strOfNums [97] = S := ⟨_, rfl⟩
        rw [hS] at hcv
        have hsz : S.size = 1 := by rw [← hS]; rfl
        have HOo := Lib.hid (HO.out.turn t1 (fun _ _ => id))
        have HTo := Lib.hid (HT.out.trans t1 (fun _ _ => id))
        obtain ⟨va, wa, hra, hoa, tta, a3, c3, hva⟩ := app_one wo w.heap.size 23 23 Try.underlying23 (.slice ca N cc) (regL m) (El.mk 10 2 1 0 (({ data := #[114] } : ByteArray) ++ S) 0 0 ByteArray.empty ByteArray.empty ByteArray.empty) HOo.out HTo.out.size (by rw [regL_len]; have := HK.out; omega)
        rw [regL_len, hN] at hva
        subst hva
        have hds : regL m ++ [(El.mk 10 2 1 0 (({ data := #[114] } : ByteArray) ++ S) 0 0 ByteArray.empty ByteArray.empty ByteArray.empty)] = regL (m + 1) := by rw [regL_succ, rE, ← hS, hI]; rfl
        rw [hds] at hoa
        have hle : m + 1 ≤ K := by omega
        have HRA := Lib.hid hra
        have HOA := Lib.hid (show OwV w.heap.size wa (.slice a3 (N + 1) c3) (regL (m + 1)) from hoa)
        have TA := Lib.hid (turn_on HOo.out (Nat.le_refl _) HTo.out tta)
        have HI := Lib.hid (show (m : Int) = 0 ∧ m + 1 ≤ K from ⟨hI, hle⟩)
        clear hra hoa tta hds hI hle hb hr t1 hS hN hmK hlt
        go_wp2_with (with_reducible (show wpList _ _ _ (Oper.mk (some 32) (.build 35 _) _ _ _ _ :: _) _ _); refine still ?_)
        refine list_exec rfl _ _ (exec_el0124 _ _ _ _ _ _ 10 2 1 (({ data := #[114] } : ByteArray) ++ S) rfl rfl rfl rfl rfl _) ?_
        clear hcv hwo hsz
        go_wp2_with (with_reducible (show wpList _ _ _ (Oper.mk (some 33) (.buildSlice 23 _ _) _ _ _ _ :: _) _ _); refine still ?_)
        refine list_exec rfl _ _ (exec_build_one _ _ (.tmp 32) 23 Try.underlying23 rfl (El.mk 10 2 1 0 (({ data := #[114] } : ByteArray) ++ S) 0 0 ByteArray.empty ByteArray.empty ByteArray.empty) rfl _) ?_
        go_wp2_with (with_reducible (show wpList _ _ _ (Oper.mk (some 34) (_) _ _ _ _ :: _) _ _); refine still ?_)
        refine list_exec rfl _ _ (exec_append _ _ (.tmp 23) (.tmp 33) 23 rfl _ _ _ _ _ rfl rfl HRA.out) ?_
        go_wp2_with fail
        go_roundw
        case rel => exact ⟨m + 1, HI.out.2, congrArg (Value.int _) (by have := HI.out; omega), HOA.out, TA.out⟩
        case measure => have := HI.out; have := HP.out; simp [intOf]; omega
      · have hb := box_alloc wr 5 [.int .u8 98]
        have hr : Reads (wr.alloc (.cells #[.int .u8 98] 5)) (.slice (some ⟨wr.heap.size, 0, none⟩) 1 1) [98] := by
          refine .inr ⟨wr.heap.size, 0, 1, rfl, Nat.le_refl _, fun i hi => ?_⟩
          rw [cell_of_row _ _ _ _ 5 (0, 0) (heap_alloc_new wr _)]
          have : i = 0 := by simp at hi; omega
          subst this; rfl
        have hcv := hr.conv
        have t1 : Turn (fun _ => False) wr (wr.alloc (.cells #[.int .u8 98] 5)) := hb.turn
        obtain ⟨wo, hwo⟩ : ∃ wo, wr.alloc (.cells #[.int .u8 98] 5) = wo := ⟨_, rfl⟩
        rw [hwo] at hcv t1
        obtain ⟨S, hS⟩ : ∃ S, strOfNums [98] = S := ⟨_, rfl⟩
        rw [hS] at hcv
        have hsz : S.size = 1 := by rw [← hS]; rfl
        have HOo := Lib.hid (HO.out.turn t1 (fun _ _ => id))
        have HTo := Lib.hid (HT.out.trans t1 (fun _ _ => id))
        obtain ⟨va, wa, hra, hoa, tta, a3, c3, hva⟩ := app_one wo w.heap.size 23 23 Try.underlying23 (.slice ca N cc) (regL m) (El.mk 11 2 1 0 (({ data := #[114] } : ByteArray) ++ S) 0 0 ByteArray.empty ByteArray.empty ByteArray.empty) HOo.out HTo.out.size (by rw [regL_len]; have := HK.out; omega)
        rw [regL_len, hN] at hva
        subst hva
        have hds : regL m ++ [(El.mk 11 2 1 0 (({ data := #[114] } : ByteArray) ++ S) 0 0 ByteArray.empty ByteArray.empty ByteArray.empty)] = regL (m + 1) := by rw [regL_succ, rE, ← hS, hI]; rfl
        rw [hds] at hoa
        have hle : m + 1 ≤ K := by omega
        have HRA := Lib.hid hra
        have HOA := Lib.hid (show OwV w.heap.size wa (.slice a3 (N + 1) c3) (regL (m + 1)) from hoa)
        have TA := Lib.hid (turn_on HOo.out (Nat.le_refl _) HTo.out tta)
        have HI := Lib.hid (show (m : Int) = 1 ∧ m + 1 ≤ K from ⟨hI, hle⟩)
        clear hra hoa tta hds hI hle hb hr t1 hS hN hmK hlt
        go_wp2_with (with_reducible (show wpList _ _ _ (Oper.mk (some 32) (.build 35 _) _ _ _ _ :: _) _ _); refine still ?_)
        refine list_exec rfl _ _ (exec_el0124 _ _ _ _ _ _ 11 2 1 (({ data := #[114] } : ByteArray) ++ S) rfl rfl rfl rfl rfl _) ?_
        clear hcv hwo hsz
        go_wp2_with (with_reducible (show wpList _ _ _ (Oper.mk (some 33) (.buildSlice 23 _ _) _ _ _ _ :: _) _ _); refine still ?_)
        refine list_exec rfl _ _ (exec_build_one _ _ (.tmp 32) 23 Try.underlying23 rfl (El.mk 11 2 1 0 (({ data := #[114] } : ByteArray) ++ S) 0 0 ByteArray.empty ByteArray.empty ByteArray.empty) rfl _) ?_
        go_wp2_with (with_reducible (show wpList _ _ _ (Oper.mk (some 34) (_) _ _ _ _ :: _) _ _); refine still ?_)
        refine list_exec rfl _ _ (exec_append _ _ (.tmp 23) (.tmp 33) 23 rfl _ _ _ _ _ rfl rfl HRA.out) ?_
        go_wp2_with fail
        go_roundw
        case rel => exact ⟨m + 1, HI.out.2, congrArg (Value.int _) (by have := HI.out; omega), HOA.out, TA.out⟩
        case measure => have := HI.out; have := HP.out; simp [intOf]; omega
      · have hb := box_alloc wr 5 [.int .u8 99]
        have hr : Reads (wr.alloc (.cells #[.int .u8 99] 5)) (.slice (some ⟨wr.heap.size, 0, none⟩) 1 1) [99] := by
          refine .inr ⟨wr.heap.size, 0, 1, rfl, Nat.le_refl _, fun i hi => ?_⟩
          rw [cell_of_row _ _ _ _ 5 (0, 0) (heap_alloc_new wr _)]
          have : i = 0 := by simp at hi; omega
          subst this; rfl
        have hcv := hr.conv
        have t1 : Turn (fun _ => False) wr (wr.alloc (.cells #[.int .u8 99] 5)) := hb.turn
        obtain ⟨wo, hwo⟩ : ∃ wo, wr.alloc (.cells #[.int .u8 99] 5) = wo := ⟨_, rfl⟩
        rw [hwo] at hcv t1
        obtain ⟨S, hS⟩ : ∃ S, strOfNums [99] = S := ⟨_, rfl⟩
        rw [hS] at hcv
        have hsz : S.size = 1 := by rw [← hS]; rfl
        have HOo := Lib.hid (HO.out.turn t1 (fun _ _ => id))
        have HTo := Lib.hid (HT.out.trans t1 (fun _ _ => id))
        obtain ⟨va, wa, hra, hoa, tta, a3, c3, hva⟩ := app_one wo w.heap.size 23 23 Try.underlying23 (.slice ca N cc) (regL m) (El.mk 12 2 1 0 (({ data := #[114] } : ByteArray) ++ S) 0 0 ByteArray.empty ByteArray.empty ByteArray.empty) HOo.out HTo.out.size (by rw [regL_len]; have := HK.out; omega)
        rw [regL_len, hN] at hva
        subst hva
        have hds : regL m ++ [(El.mk 12 2 1 0 (({ data := #[114] } : ByteArray) ++ S) 0 0 ByteArray.empty ByteArray.empty ByteArray.empty)] = regL (m + 1) := by rw [regL_succ, rE, ← hS, hI]; rfl
        rw [hds] at hoa
        have hle : m + 1 ≤ K := by omega
        have HRA := Lib.hid hra
        have HOA := Lib.hid (show OwV w.heap.size wa (.slice a3 (N + 1) c3) (regL (m + 1)) from hoa)
        have TA := Lib.hid (turn_on HOo.out (Nat.le_refl _) HTo.out tta)
        have HI := Lib.hid (show (m : Int) = 2 ∧ m + 1 ≤ K from ⟨hI, hle⟩)
        clear hra hoa tta hds hI hle hb hr t1 hS hN hmK hlt
        go_wp2_with (with_reducible (show wpList _ _ _ (Oper.mk (some 32) (.build 35 _) _ _ _ _ :: _) _ _); refine still ?_)
        refine list_exec rfl _ _ (exec_el0124 _ _ _ _ _ _ 12 2 1 (({ data := #[114] } : ByteArray) ++ S) rfl rfl rfl rfl rfl _) ?_
        clear hcv hwo hsz
        go_wp2_with (with_reducible (show wpList _ _ _ (Oper.mk (some 33) (.buildSlice 23 _ _) _ _ _ _ :: _) _ _); refine still ?_)
        refine list_exec rfl _ _ (exec_build_one _ _ (.tmp 32) 23 Try.underlying23 rfl (El.mk 12 2 1 0 (({ data := #[114] } : ByteArray) ++ S) 0 0 ByteArray.empty ByteArray.empty ByteArray.empty) rfl _) ?_
        go_wp2_with (with_reducible (show wpList _ _ _ (Oper.mk (some 34) (_) _ _ _ _ :: _) _ _); refine still ?_)
        refine list_exec rfl _ _ (exec_append _ _ (.tmp 23) (.tmp 33) 23 rfl _ _ _ _ _ rfl rfl HRA.out) ?_
        go_wp2_with fail
        go_roundw
        case rel => exact ⟨m + 1, HI.out.2, congrArg (Value.int _) (by have := HI.out; omega), HOA.out, TA.out⟩
        case measure => have := HI.out; have := HP.out; simp [intOf]; omega
      · have hb := box_alloc wr 5 [.int .u8 100]
        have hr : Reads (wr.alloc (.cells #[.int .u8 100] 5)) (.slice (some ⟨wr.heap.size, 0, none⟩) 1 1) [100] := by
          refine .inr ⟨wr.heap.size, 0, 1, rfl, Nat.le_refl _, fun i hi => ?_⟩
          rw [cell_of_row _ _ _ _ 5 (0, 0) (heap_alloc_new wr _)]
          have : i = 0 := by simp at hi; omega
          subst this; rfl
        have hcv := hr.conv
        have t1 : Turn (fun _ => False) wr (wr.alloc (.cells #[.int .u8 100] 5)) := hb.turn
        obtain ⟨wo, hwo⟩ : ∃ wo, wr.alloc (.cells #[.int .u8 100] 5) = wo := ⟨_, rfl⟩
        rw [hwo] at hcv t1
        obtain ⟨S, hS⟩ : ∃ S, strOfNums [100] = S := ⟨_, rfl⟩
        rw [hS] at hcv
        have hsz : S.size = 1 := by rw [← hS]; rfl
        have HOo := Lib.hid (HO.out.turn t1 (fun _ _ => id))
        have HTo := Lib.hid (HT.out.trans t1 (fun _ _ => id))
        obtain ⟨va, wa, hra, hoa, tta, a3, c3, hva⟩ := app_one wo w.heap.size 23 23 Try.underlying23 (.slice ca N cc) (regL m) (El.mk 13 2 1 0 (({ data := #[114] } : ByteArray) ++ S) 0 0 ByteArray.empty ByteArray.empty ByteArray.empty) HOo.out HTo.out.size (by rw [regL_len]; have := HK.out; omega)
        rw [regL_len, hN] at hva
        subst hva
        have hds : regL m ++ [(El.mk 13 2 1 0 (({ data := #[114] } : ByteArray) ++ S) 0 0 ByteArray.empty ByteArray.empty ByteArray.empty)] = regL (m + 1) := by rw [regL_succ, rE, ← hS, hI]; rfl
        rw [hds] at hoa
        have hle : m + 1 ≤ K := by omega
        have HRA := Lib.hid hra
        have HOA := Lib.hid (show OwV w.heap.size wa (.slice a3 (N + 1) c3) (regL (m + 1)) from hoa)
        have TA := Lib.hid (turn_on HOo.out (Nat.le_refl _) HTo.out tta)
        have HI := Lib.hid (show (m : Int) = 3 ∧ m + 1 ≤ K from ⟨hI, hle⟩)
        clear hra hoa tta hds hI hle hb hr t1 hS hN hmK hlt
        go_wp2_with (with_reducible (show wpList _ _ _ (Oper.mk (some 32) (.build 35 _) _ _ _ _ :: _) _ _); refine still ?_)
        refine list_exec rfl _ _ (exec_el0124 _ _ _ _ _ _ 13 2 1 (({ data := #[114] } : ByteArray) ++ S) rfl rfl rfl rfl rfl _) ?_
        clear hcv hwo hsz
        go_wp2_with (with_reducible (show wpList _ _ _ (Oper.mk (some 33) (.buildSlice 23 _ _) _ _ _ _ :: _) _ _); refine still ?_)
        refine list_exec rfl _ _ (exec_build_one _ _ (.tmp 32) 23 Try.underlying23 rfl (El.mk 13 2 1 0 (({ data := #[114] } : ByteArray) ++ S) 0 0 ByteArray.empty ByteArray.empty ByteArray.empty) rfl _) ?_
        go_wp2_with (with_reducible (show wpList _ _ _ (Oper.mk (some 34) (_) _ _ _ _ :: _) _ _); refine still ?_)
        refine list_exec rfl _ _ (exec_append _ _ (.tmp 23) (.tmp 33) 23 rfl _ _ _ _ _ rfl rfl HRA.out) ?_
        go_wp2_with fail
        go_roundw
        case rel => exact ⟨m + 1, HI.out.2, congrArg (Value.int _) (by have := HI.out; omega), HOA.out, TA.out⟩
        case measure => have := HI.out; have := HP.out; simp [intOf]; omega
      · have hb := box_alloc wr 5 [.int .u8 101]
        have hr : Reads (wr.alloc (.cells #[.int .u8 101] 5)) (.slice (some ⟨wr.heap.size, 0, none⟩) 1 1) [101] := by
          refine .inr ⟨wr.heap.size, 0, 1, rfl, Nat.le_refl _, fun i hi => ?_⟩
          rw [cell_of_row _ _ _ _ 5 (0, 0) (heap_alloc_new wr _)]
          have : i = 0 := by simp at hi; omega
          subst this; rfl
        have hcv := hr.conv
        have t1 : Turn (fun _ => False) wr (wr.alloc (.cells #[.int .u8 101] 5)) := hb.turn
        obtain ⟨wo, hwo⟩ : ∃ wo, wr.alloc (.cells #[.int .u8 101] 5) = wo := ⟨_, rfl⟩
        rw [hwo] at hcv t1
        obtain ⟨S, hS⟩ : ∃ S, strOfNums [101] = S := ⟨_, rfl⟩
        rw [hS] at hcv
        have hsz : S.size = 1 := by rw [← hS]; rfl
        have HOo := Lib.hid (HO.out.turn t1 (fun _ _ => id))
        have HTo := Lib.hid (HT.out.trans t1 (fun _ _ => id))
        obtain ⟨va, wa, hra, hoa, tta, a3, c3, hva⟩ := app_one wo w.heap.size 23 23 Try.underlying23 (.slice ca N cc) (regL m) (El.mk 14 2 1 0 (({ data := #[114] } : ByteArray) ++ S) 0 0 ByteArray.empty ByteArray.empty ByteArray.empty) HOo.out HTo.out.size (by rw [regL_len]; have := HK.out; omega)
        rw [regL_len, hN] at hva
        subst hva
        have hds : regL m ++ [(El.mk 14 2 1 0 (({ data := #[114] } : ByteArray) ++ S) 0 0 ByteArray.empty ByteArray.empty ByteArray.empty)] = regL (m + 1) := by rw [regL_succ, rE, ← hS, hI]; rfl
        rw [hds] at hoa
        have hle : m + 1 ≤ K := by omega
        have HRA := Lib.hid hra
        have HOA := Lib.hid (show OwV w.heap.size wa (.slice a3 (N + 1) c3) (regL (m + 1)) from hoa)
        have TA := Lib.hid (turn_on HOo.out (Nat.le_refl _) HTo.out tta)
        have HI := Lib.hid (show (m : Int) = 4 ∧ m + 1 ≤ K from ⟨hI, hle⟩)
        clear hra hoa tta hds hI hle hb hr t1 hS hN hmK hlt
        go_wp2_with (with_reducible (show wpList _ _ _ (Oper.mk (some 32) (.build 35 _) _ _ _ _ :: _) _ _); refine still ?_)
        refine list_exec rfl _ _ (exec_el0124 _ _ _ _ _ _ 14 2 1 (({ data := #[114] } : ByteArray) ++ S) rfl rfl rfl rfl rfl _) ?_
        clear hcv hwo hsz
        go_wp2_with (with_reducible (show wpList _ _ _ (Oper.mk (some 33) (.buildSlice 23 _ _) _ _ _ _ :: _) _ _); refine still ?_)
        refine list_exec rfl _ _ (exec_build_one _ _ (.tmp 32) 23 Try.underlying23 rfl (El.mk 14 2 1 0 (({ data := #[114] } : ByteArray) ++ S) 0 0 ByteArray.empty ByteArray.empty ByteArray.empty) rfl _) ?_
        go_wp2_with (with_reducible (show wpList _ _ _ (Oper.mk (some 34) (_) _ _ _ _ :: _) _ _); refine still ?_)
        refine list_exec rfl _ _ (exec_append _ _ (.tmp 23) (.tmp 33) 23 rfl _ _ _ _ _ rfl rfl HRA.out) ?_
        go_wp2_with fail
        go_roundw
        case rel => exact ⟨m + 1, HI.out.2, congrArg (Value.int _) (by have := HI.out; omega), HOA.out, TA.out⟩
        case measure => have := HI.out; have := HP.out; simp [intOf]; omega
    · have hmk : m = K := by omega
      subst hmk
      have dk : decide ((m : Int) < P) = false := decide_eq_false (by have := HP.out; omega)
      clear hlt hmK
      have HN := Lib.hid hN
      clear hN
      go_wp2_with fail
      go_loopw [8, 10] (fun cv iv wr => ∃ j : Nat, j ≤ m ∧ iv = .int .i64 (j : Int) ∧ OwV w.heap.size wr cv (sidL m j) ∧ Turn (fun _ => False) w wr) (fun _ iv _ => (P - intOf iv).toNat)
      case atStart => exact ⟨0, Nat.zero_le _, rfl, by rw [sidL_zero]; exact HO.out, HT.out⟩
      case round =>
        obtain ⟨j, hjm, rfl, how, htr⟩ := hrel
        clear HO HT HN
        obtain ⟨ca, cc, hform⟩ := how.form
        subst hform
        simp only [sidL_len] at how ⊢
        obtain ⟨N, hN⟩ : ∃ N, m + 1 + j = N := ⟨_, rfl⟩
        rw [hN] at how
        rw [hN]
        have HO := Lib.hid how
        have HT := Lib.hid htr
        clear how htr
        by_cases hlt : j < m
        · obtain ⟨I, hI⟩ : ∃ I : Int, (j : Int) = I := ⟨_, rfl⟩
          rw [hI]
          have hcs : I = 0 ∨ I = 1 ∨ I = 2 ∨ I = 3 ∨ I = 4 := by have := HK.out; omega
          have dk2 : decide (I < P) = true := decide_eq_true (by have := HP.out; omega)
          rcases hcs with rfl | rfl | rfl | rfl | rfl
          · have hoB := own_alloc wr [(El.mk 20 1 10 0 ({ data := #[115] } : ByteArray) 0 0 ByteArray.empty ByteArray.empty ByteArray.empty), el0] (by decide)
            have t1 := turn_alloc wr 35 (elsV [(El.mk 20 1 10 0 ({ data := #[115] } : ByteArray) 0 0 ByteArray.empty ByteArray.empty ByteArray.empty), el0])
            obtain ⟨D, hD⟩ : ∃ D, wr.heap.size = D := ⟨_, rfl⟩
            obtain ⟨wb, hwb⟩ : ∃ wb, wr.alloc (.cells (elsV [(El.mk 20 1 10 0 ({ data := #[115] } : ByteArray) 0 0 ByteArray.empty ByteArray.empty ByteArray.empty), el0]).toArray 35) = wb := ⟨_, rfl⟩
            have hbl : ∀ ev op, op.op = .buildSlice 23 2 #[(0, .tmp 45), (1, .tmp 46)] → ev (.tmp 45) = .agg (El.mk 20 1 10 0 ({ data := #[115] } : ByteArray) 0 0 ByteArray.empty ByteArray.empty ByteArray.empty).vals.toArray → ev (.tmp 46) = .agg el0.vals.toArray → (execOp ev op).run Try.prog wr = .ok (.value (.slice (some ⟨D, 0, none⟩) 2 2)) wb := fun ev op ho h0 h1 => by rw [← hwb, ← hD]; exact exec_els2 ev op _ _ ho _ _ h0 h1 wr
            rw [hwb] at hoB t1
            rw [hD] at hoB
            have HOb := Lib.hid (HO.out.turn t1 (fun _ _ => id))
            have HTb := Lib.hid (HT.out.trans t1 (fun _ _ => id))
            obtain ⟨va, wa, hra, hoa, tta⟩ := app_els wb w.heap.size 23 23 Try.underlying23 (.slice ca N cc) (.slice (some ⟨D, 0, none⟩) 2 2) (sidL m j) [(El.mk 20 1 10 0 ({ data := #[115] } : ByteArray) 0 0 ByteArray.empty ByteArray.empty ByteArray.empty), el0] HOb.out (show OwV D wb (.slice (some ⟨D, 0, none⟩) 2 2) [(El.mk 20 1 10 0 ({ data := #[115] } : ByteArray) 0 0 ByteArray.empty ByteArray.empty ByteArray.empty), el0] from hoB).row HTb.out.size (by rw [sidL_len]; show m + 1 + j + 2 ≤ 1000000; have := HK.out; omega)
            have hoa2 : OwV w.heap.size wa va (sidL m j ++ [(El.mk 20 1 10 0 ({ data := #[115] } : ByteArray) 0 0 ByteArray.empty ByteArray.empty ByteArray.empty), el0]) := hoa
            obtain ⟨a3, c3, hva⟩ := hoa2.form
            obtain ⟨M, hM⟩ : ∃ M, (sidL m j ++ [(El.mk 20 1 10 0 ({ data := #[115] } : ByteArray) 0 0 ByteArray.empty ByteArray.empty ByteArray.empty), el0]).length = M := ⟨_, rfl⟩
            have hM2 : M = N + 2 := by rw [← hM, List.length_append, sidL_len, hN]; rfl
            rw [hM] at hva
            subst hva
            have hcap := hoa2.cap hM
            have hds : sidL m j ++ [(El.mk 20 1 10 0 ({ data := #[115] } : ByteArray) 0 0 ByteArray.empty ByteArray.empty ByteArray.empty)] = sidL m (j + 1) := by rw [sidL_succ, sE, hI]; rfl
            have hoc := own_cut (n := N + 1) (l := sidL m j ++ [(El.mk 20 1 10 0 ({ data := #[115] } : ByteArray) 0 0 ByteArray.empty ByteArray.empty ByteArray.empty)]) (x := el0) (by rw [List.append_assoc]; exact hoa2) (by rw [List.length_append, sidL_len, hN]; rfl) hM2
            rw [hds] at hoc
            have hle : j + 1 ≤ m := by omega
            have HRA := Lib.hid hra
            have HOC := Lib.hid hoc
            have TA := Lib.hid (turn_on HOb.out (Nat.le_refl _) HTb.out tta)
            have HI := Lib.hid (show (j : Int) = 0 ∧ j + 1 ≤ m from ⟨hI, hle⟩)
            have HBL := Lib.hid hbl
            obtain ⟨L, hL⟩ : ∃ L, N + 1 = L := ⟨_, rfl⟩
            rw [hL] at HOC
            have hw : wrap64 ((M : Int) - 1) = (L : Int) := by have := HK.out; unfold wrap64; omega
            have HW := Lib.hid hw
            have HW2 := Lib.hid (show (M : Int) - 1 = (L : Int) by omega)
            have HCAP := Lib.hid (show L ≤ c3 by omega)
            clear hra hoa hoa2 tta hds hI hle hoB t1 hD hwb hbl hM hM2 hcap hoc hL hw hjm hlt hN
            go_wp2_with (with_reducible (show wpList _ _ _ (Oper.mk (some 45) (.build 35 _) _ _ _ _ :: _) _ _); refine still ?_)
            refine list_exec rfl _ _ (exec_el0124 _ _ _ _ _ _ 20 1 10 ({ data := #[115] } : ByteArray) rfl rfl rfl rfl rfl _) ?_
            go_wp2_with (with_reducible (show wpList _ _ _ (Oper.mk (some 46) (.build 35 _) _ _ _ _ :: _) _ _); refine still ?_)
            refine list_exec rfl _ _ (exec_el _ _ rfl _) ?_
            go_wp2_with (with_reducible (show wpList _ _ _ (Oper.mk (some 47) (.buildSlice 23 _ _) _ _ _ _ :: _) _ _); refine still ?_)
            refine list_exec rfl _ _ (HBL.out _ _ rfl rfl rfl) ?_
            go_wp2_with (with_reducible (show wpList _ _ _ (Oper.mk (some 48) (_) _ _ _ _ :: _) _ _); refine still ?_)
            refine list_exec rfl _ _ (exec_append _ _ (.tmp 40) (.tmp 47) 23 rfl _ _ _ _ _ rfl rfl HRA.out) ?_
            go_wp2_with (with_reducible (show wpList _ _ _ (Oper.mk (some 53) (.slice 23 _ _ _ _) _ _ _ _ :: _) _ _); refine still ?_)
            first | rw [HW.out] | rw [HW2.out]
            refine list_exec rfl _ _ (exec_slice_hi _ _ rfl a3 M c3 L rfl rfl HCAP.out _) ?_
            go_wp2_with fail
            go_roundw
            case rel => exact ⟨j + 1, HI.out.2, congrArg (Value.int _) (by have := HI.out; omega), HOC.out, TA.out⟩
            case measure => have := HI.out; have := HP.out; simp [intOf]; omega
          · have hoB := own_alloc wr [(El.mk 21 1 11 0 ({ data := #[115] } : ByteArray) 0 0 ByteArray.empty ByteArray.empty ByteArray.empty), el0] (by decide)
            have t1 := turn_alloc wr 35 (elsV [(El.mk 21 1 11 0 ({ data := #[115] } : ByteArray) 0 0 ByteArray.empty ByteArray.empty ByteArray.empty), el0])
            obtain ⟨D, hD⟩ : ∃ D, wr.heap.size = D := ⟨_, rfl⟩
            obtain ⟨wb, hwb⟩ : ∃ wb, wr.alloc (.cells (elsV [(El.mk 21 1 11 0 ({ data := #[115] } : ByteArray) 0 0 ByteArray.empty ByteArray.empty ByteArray.empty), el0]).toArray 35) = wb := ⟨_, rfl⟩
            have hbl : ∀ ev op, op.op = .buildSlice 23 2 #[(0, .tmp 45), (1, .tmp 46)] → ev (.tmp 45) = .agg (El.mk 21 1 11 0 ({ data := #[115] } : ByteArray) 0 0 ByteArray.empty ByteArray.empty ByteArray.empty).vals.toArray → ev (.tmp 46) = .agg el0.vals.toArray → (execOp ev op).run Try.prog wr = .ok (.value (.slice (some ⟨D, 0, none⟩) 2 2)) wb := fun ev op ho h0 h1 => by rw [← hwb, ← hD]; exact exec_els2 ev op _ _ ho _ _ h0 h1 wr
            rw [hwb] at hoB t1
            rw [hD] at hoB
            have HOb := Lib.hid (HO.out.turn t1 (fun _ _ => id))
            have HTb := Lib.hid (HT.out.trans t1 (fun _ _ => id))
            obtain ⟨va, wa, hra, hoa, tta⟩ := app_els wb w.heap.size 23 23 Try.underlying23 (.slice ca N cc) (.slice (some ⟨D, 0, none⟩) 2 2) (sidL m j) [(El.mk 21 1 11 0 ({ data := #[115] } : ByteArray) 0 0 ByteArray.empty ByteArray.empty ByteArray.empty), el0] HOb.out (show OwV D wb (.slice (some ⟨D, 0, none⟩) 2 2) [(El.mk 21 1 11 0 ({ data := #[115] } : ByteArray) 0 0 ByteArray.empty ByteArray.empty ByteArray.empty), el0] from hoB).row HTb.out.size (by rw [sidL_len]; show m + 1 + j + 2 ≤ 1000000; have := HK.out; omega)
            have hoa2 : OwV w.heap.size wa va (sidL m j ++ [(El.mk 21 1 11 0 ({ data := #[115] } : ByteArray) 0 0 ByteArray.empty ByteArray.empty ByteArray.empty), el0]) := hoa
            obtain ⟨a3, c3, hva⟩ := hoa2.form
            obtain ⟨M, hM⟩ : ∃ M, (sidL m j ++ [(El.mk 21 1 11 0 ({ data := #[115] } : ByteArray) 0 0 ByteArray.empty ByteArray.empty ByteArray.empty), el0]).length = M := ⟨_, rfl⟩
            have hM2 : M = N + 2 := by rw [← hM, List.length_append, sidL_len, hN]; rfl
            rw [hM] at hva
            subst hva
            have hcap := hoa2.cap hM
            have hds : sidL m j ++ [(El.mk 21 1 11 0 ({ data := #[115] } : ByteArray) 0 0 ByteArray.empty ByteArray.empty ByteArray.empty)] = sidL m (j + 1) := by rw [sidL_succ, sE, hI]; rfl
            have hoc := own_cut (n := N + 1) (l := sidL m j ++ [(El.mk 21 1 11 0 ({ data := #[115] } : ByteArray) 0 0 ByteArray.empty ByteArray.empty ByteArray.empty)]) (x := el0) (by rw [List.append_assoc]; exact hoa2) (by rw [List.length_append, sidL_len, hN]; rfl) hM2
            rw [hds] at hoc
            have hle : j + 1 ≤ m := by omega
            have HRA := Lib.hid hra
            have HOC := Lib.hid hoc
            have TA := Lib.hid (turn_on HOb.out (Nat.le_refl _) HTb.out tta)
            have HI := Lib.hid (show (j : Int) = 1 ∧ j + 1 ≤ m from ⟨hI, hle⟩)
            have HBL := Lib.hid hbl
            obtain ⟨L, hL⟩ : ∃ L, N + 1 = L := ⟨_, rfl⟩
            rw [hL] at HOC
            have hw : wrap64 ((M : Int) - 1) = (L : Int) := by have := HK.out; unfold wrap64; omega
            have HW := Lib.hid hw
            have HW2 := Lib.hid (show (M : Int) - 1 = (L : Int) by omega)
            have HCAP := Lib.hid (show L ≤ c3 by omega)
            clear hra hoa hoa2 tta hds hI hle hoB t1 hD hwb hbl hM hM2 hcap hoc hL hw hjm hlt hN
            go_wp2_with (with_reducible (show wpList _ _ _ (Oper.mk (some 45) (.build 35 _) _ _ _ _ :: _) _ _); refine still ?_)
            refine list_exec rfl _ _ (exec_el0124 _ _ _ _ _ _ 21 1 11 ({ data := #[115] } : ByteArray) rfl rfl rfl rfl rfl _) ?_
            go_wp2_with (with_reducible (show wpList _ _ _ (Oper.mk (some 46) (.build 35 _) _ _ _ _ :: _) _ _); refine still ?_)
            refine list_exec rfl _ _ (exec_el _ _ rfl _) ?_
            go_wp2_with (with_reducible (show wpList _ _ _ (Oper.mk (some 47) (.buildSlice 23 _ _) _ _ _ _ :: _) _ _); refine still ?_)
            refine list_exec rfl _ _ (HBL.out _ _ rfl rfl rfl) ?_
            go_wp2_with (with_reducible (show wpList _ _ _ (Oper.mk (some 48) (_) _ _ _ _ :: _) _ _); refine still ?_)
            refine list_exec rfl _ _ (exec_append _ _ (.tmp 40) (.tmp 47) 23 rfl _ _ _ _ _ rfl rfl HRA.out) ?_
            go_wp2_with (with_reducible (show wpList _ _ _ (Oper.mk (some 53) (.slice 23 _ _ _ _) _ _ _ _ :: _) _ _); refine still ?_)
            first | rw [HW.out] | rw [HW2.out]
            refine list_exec rfl _ _ (exec_slice_hi _ _ rfl a3 M c3 L rfl rfl HCAP.out _) ?_
            go_wp2_with fail
            go_roundw
            case rel => exact ⟨j + 1, HI.out.2, congrArg (Value.int _) (by have := HI.out; omega), HOC.out, TA.out⟩
            case measure => have := HI.out; have := HP.out; simp [intOf]; omega
          · have hoB := own_alloc wr [(El.mk 22 1 12 0 ({ data := #[115] } : ByteArray) 0 0 ByteArray.empty ByteArray.empty ByteArray.empty), el0] (by decide)
            have t1 := turn_alloc wr 35 (elsV [(El.mk 22 1 12 0 ({ data := #[115] } : ByteArray) 0 0 ByteArray.empty ByteArray.empty ByteArray.empty), el0])
            obtain ⟨D, hD⟩ : ∃ D, wr.heap.size = D := ⟨_, rfl⟩
            obtain ⟨wb, hwb⟩ : ∃ wb, wr.alloc (.cells (elsV [(El.mk 22 1 12 0 ({ data := #[115] } : ByteArray) 0 0 ByteArray.empty ByteArray.empty ByteArray.empty), el0]).toArray 35) = wb := ⟨_, rfl⟩
            have hbl : ∀ ev op, op.op = .buildSlice 23 2 #[(0, .tmp 45), (1, .tmp 46)] → ev (.tmp 45) = .agg (El.mk 22 1 12 0 ({ data := #[115] } : ByteArray) 0 0 ByteArray.empty ByteArray.empty ByteArray.empty).vals.toArray → ev (.tmp 46) = .agg el0.vals.toArray → (execOp ev op).run Try.prog wr = .ok (.value (.slice (some ⟨D, 0, none⟩) 2 2)) wb := fun ev op ho h0 h1 => by rw [← hwb, ← hD]; exact exec_els2 ev op _ _ ho _ _ h0 h1 wr
            rw [hwb] at hoB t1
            rw [hD] at hoB
            have HOb := Lib.hid (HO.out.turn t1 (fun _ _ => id))
            have HTb := Lib.hid (HT.out.trans t1 (fun _ _ => id))
            obtain ⟨va, wa, hra, hoa, tta⟩ := app_els wb w.heap.size 23 23 Try.underlying23 (.slice ca N cc) (.slice (some ⟨D, 0, none⟩) 2 2) (sidL m j) [(El.mk 22 1 12 0 ({ data := #[115] } : ByteArray) 0 0 ByteArray.empty ByteArray.empty ByteArray.empty), el0] HOb.out (show OwV D wb (.slice (some ⟨D, 0, none⟩) 2 2) [(El.mk 22 1 12 0 ({ data := #[115] } : ByteArray) 0 0 ByteArray.empty ByteArray.empty ByteArray.empty), el0] from hoB).row HTb.out.size (by rw [sidL_len]; show m + 1 + j + 2 ≤ 1000000; have := HK.out; omega)
            have hoa2 : OwV w.heap.size wa va (sidL m j ++ [(El.mk 22 1 12 0 ({ data := #[115] } : ByteArray) 0 0 ByteArray.empty ByteArray.empty ByteArray.empty), el0]) := hoa
            obtain ⟨a3, c3, hva⟩ := hoa2.form
            obtain ⟨M, hM⟩ : ∃ M, (sidL m j ++ [(El.mk 22 1 12 0 ({ data := #[115] } : ByteArray) 0 0 ByteArray.empty ByteArray.empty ByteArray.empty), el0]).length = M := ⟨_, rfl⟩
            have hM2 : M = N + 2 := by rw [← hM, List.length_append, sidL_len, hN]; rfl
            rw [hM] at hva
            subst hva
            have hcap := hoa2.cap hM
            have hds : sidL m j ++ [(El.mk 22 1 12 0 ({ data := #[115] } : ByteArray) 0 0 ByteArray.empty ByteArray.empty ByteArray.empty)] = sidL m (j + 1) := by rw [sidL_succ, sE, hI]; rfl
            have hoc := own_cut (n := N + 1) (l := sidL m j ++ [(El.mk 22 1 12 0 ({ data := #[115] } : ByteArray) 0 0 ByteArray.empty ByteArray.empty ByteArray.empty)]) (x := el0) (by rw [List.append_assoc]; exact hoa2) (by rw [List.length_append, sidL_len, hN]; rfl) hM2
            rw [hds] at hoc
            have hle : j + 1 ≤ m := by omega
            have HRA := Lib.hid hra
            have HOC := Lib.hid hoc
            have TA := Lib.hid (turn_on HOb.out (Nat.le_refl _) HTb.out tta)
            have HI := Lib.hid (show (j : Int) = 2 ∧ j + 1 ≤ m from ⟨hI, hle⟩)
            have HBL := Lib.hid hbl
            obtain ⟨L, hL⟩ : ∃ L, N + 1 = L := ⟨_, rfl⟩
            rw [hL] at HOC
            have hw : wrap64 ((M : Int) - 1) = (L : Int) := by have := HK.out; unfold wrap64; omega
            have HW := Lib.hid hw
            have HW2 := Lib.hid (show (M : Int) - 1 = (L : Int) by omega)
            have HCAP := Lib.hid (show L ≤ c3 by omega)
            clear hra hoa hoa2 tta hds hI hle hoB t1 hD hwb hbl hM hM2 hcap hoc hL hw hjm hlt hN
            go_wp2_with (with_reducible (show wpList _ _ _ (Oper.mk (some 45) (.build 35 _) _ _ _ _ :: _) _ _); refine still ?_)
            refine list_exec rfl _ _ (exec_el0124 _ _ _ _ _ _ 22 1 12 ({ data := #[115] } : ByteArray) rfl rfl rfl rfl rfl _) ?_
            go_wp2_with (with_reducible (show wpList _ _ _ (Oper.mk (some 46) (.build 35 _) _ _ _ _ :: _) _ _); refine still ?_)
            refine list_exec rfl _ _ (exec_el _ _ rfl _) ?_
            go_wp2_with (with_reducible (show wpList _ _ _ (Oper.mk (some 47) (.buildSlice 23 _ _) _ _ _ _ :: _) _ _); refine still ?_)
            refine list_exec rfl _ _ (HBL.out _ _ rfl rfl rfl) ?_
            go_wp2_with (with_reducible (show wpList _ _ _ (Oper.mk (some 48) (_) _ _ _ _ :: _) _ _); refine still ?_)
            refine list_exec rfl _ _ (exec_append _ _ (.tmp 40) (.tmp 47) 23 rfl _ _ _ _ _ rfl rfl HRA.out) ?_
            go_wp2_with (with_reducible (show wpList _ _ _ (Oper.mk (some 53) (.slice 23 _ _ _ _) _ _ _ _ :: _) _ _); refine still ?_)
            first | rw [HW.out] | rw [HW2.out]
            refine list_exec rfl _ _ (exec_slice_hi _ _ rfl a3 M c3 L rfl rfl HCAP.out _) ?_
            go_wp2_with fail
            go_roundw
            case rel => exact ⟨j + 1, HI.out.2, congrArg (Value.int _) (by have := HI.out; omega), HOC.out, TA.out⟩
            case measure => have := HI.out; have := HP.out; simp [intOf]; omega
          · have hoB := own_alloc wr [(El.mk 23 1 13 0 ({ data := #[115] } : ByteArray) 0 0 ByteArray.empty ByteArray.empty ByteArray.empty), el0] (by decide)
            have t1 := turn_alloc wr 35 (elsV [(El.mk 23 1 13 0 ({ data := #[115] } : ByteArray) 0 0 ByteArray.empty ByteArray.empty ByteArray.empty), el0])
            obtain ⟨D, hD⟩ : ∃ D, wr.heap.size = D := ⟨_, rfl⟩
            obtain ⟨wb, hwb⟩ : ∃ wb, wr.alloc (.cells (elsV [(El.mk 23 1 13 0 ({ data := #[115] } : ByteArray) 0 0 ByteArray.empty ByteArray.empty ByteArray.empty), el0]).toArray 35) = wb := ⟨_, rfl⟩
            have hbl : ∀ ev op, op.op = .buildSlice 23 2 #[(0, .tmp 45), (1, .tmp 46)] → ev (.tmp 45) = .agg (El.mk 23 1 13 0 ({ data := #[115] } : ByteArray) 0 0 ByteArray.empty ByteArray.empty ByteArray.empty).vals.toArray → ev (.tmp 46) = .agg el0.vals.toArray → (execOp ev op).run Try.prog wr = .ok (.value (.slice (some ⟨D, 0, none⟩) 2 2)) wb := fun ev op ho h0 h1 => by rw [← hwb, ← hD]; exact exec_els2 ev op _ _ ho _ _ h0 h1 wr
            rw [hwb] at hoB t1
            rw [hD] at hoB
            have HOb := Lib.hid (HO.out.turn t1 (fun _ _ => id))
            have HTb := Lib.hid (HT.out.trans t1 (fun _ _ => id))
            obtain ⟨va, wa, hra, hoa, tta⟩ := app_els wb w.heap.size 23 23 Try.underlying23 (.slice ca N cc) (.slice (some ⟨D, 0, none⟩) 2 2) (sidL m j) [(El.mk 23 1 13 0 ({ data := #[115] } : ByteArray) 0 0 ByteArray.empty ByteArray.empty ByteArray.empty), el0] HOb.out (show OwV D wb (.slice (some ⟨D, 0, none⟩) 2 2) [(El.mk 23 1 13 0 ({ data := #[115] } : ByteArray) 0 0 ByteArray.empty ByteArray.empty ByteArray.empty), el0] from hoB).row HTb.out.size (by rw [sidL_len]; show m + 1 + j + 2 ≤ 1000000; have := HK.out; omega)
            have hoa2 : OwV w.heap.size wa va (sidL m j ++ [(El.mk 23 1 13 0 ({ data := #[115] } : ByteArray) 0 0 ByteArray.empty ByteArray.empty ByteArray.empty), el0]) := hoa
            obtain ⟨a3, c3, hva⟩ := hoa2.form
            obtain ⟨M, hM⟩ : ∃ M, (sidL m j ++ [(El.mk 23 1 13 0 ({ data := #[115] } : ByteArray) 0 0 ByteArray.empty ByteArray.empty ByteArray.empty), el0]).length = M := ⟨_, rfl⟩
            have hM2 : M = N + 2 := by rw [← hM, List.length_append, sidL_len, hN]; rfl
            rw [hM] at hva
            subst hva
            have hcap := hoa2.cap hM
            have hds : sidL m j ++ [(El.mk 23 1 13 0 ({ data := #[115] } : ByteArray) 0 0 ByteArray.empty ByteArray.empty ByteArray.empty)] = sidL m (j + 1) := by rw [sidL_succ, sE, hI]; rfl
            have hoc := own_cut (n := N + 1) (l := sidL m j ++ [(El.mk 23 1 13 0 ({ data := #[115] } : ByteArray) 0 0 ByteArray.empty ByteArray.empty ByteArray.empty)]) (x := el0) (by rw [List.append_assoc]; exact hoa2) (by rw [List.length_append, sidL_len, hN]; rfl) hM2
            rw [hds] at hoc
            have hle : j + 1 ≤ m := by omega
            have HRA := Lib.hid hra
            have HOC := Lib.hid hoc
            have TA := Lib.hid (turn_on HOb.out (Nat.le_refl _) HTb.out tta)
            have HI := Lib.hid (show (j : Int) = 3 ∧ j + 1 ≤ m from ⟨hI, hle⟩)
            have HBL := Lib.hid hbl
            obtain ⟨L, hL⟩ : ∃ L, N + 1 = L := ⟨_, rfl⟩
            rw [hL] at HOC
            have hw : wrap64 ((M : Int) - 1) = (L : Int) := by have := HK.out; unfold wrap64; omega
            have HW := Lib.hid hw
            have HW2 := Lib.hid (show (M : Int) - 1 = (L : Int) by omega)
            have HCAP := Lib.hid (show L ≤ c3 by omega)
            clear hra hoa hoa2 tta hds hI hle hoB t1 hD hwb hbl hM hM2 hcap hoc hL hw hjm hlt hN
            go_wp2_with (with_reducible (show wpList _ _ _ (Oper.mk (some 45) (.build 35 _) _ _ _ _ :: _) _ _); refine still ?_)
            refine list_exec rfl _ _ (exec_el0124 _ _ _ _ _ _ 23 1 13 ({ data := #[115] } : ByteArray) rfl rfl rfl rfl rfl _) ?_
            go_wp2_with (with_reducible (show wpList _ _ _ (Oper.mk (some 46) (.build 35 _) _ _ _ _ :: _) _ _); refine still ?_)
            refine list_exec rfl _ _ (exec_el _ _ rfl _) ?_
            go_wp2_with (with_reducible (show wpList _ _ _ (Oper.mk (some 47) (.buildSlice 23 _ _) _ _ _ _ :: _) _ _); refine still ?_)
            refine list_exec rfl _ _ (HBL.out _ _ rfl rfl rfl) ?_
            go_wp2_with (with_reducible (show wpList _ _ _ (Oper.mk (some 48) (_) _ _ _ _ :: _) _ _); refine still ?_)
            refine list_exec rfl _ _ (exec_append _ _ (.tmp 40) (.tmp 47) 23 rfl _ _ _ _ _ rfl rfl HRA.out) ?_
            go_wp2_with (with_reducible (show wpList _ _ _ (Oper.mk (some 53) (.slice 23 _ _ _ _) _ _ _ _ :: _) _ _); refine still ?_)
            first | rw [HW.out] | rw [HW2.out]
            refine list_exec rfl _ _ (exec_slice_hi _ _ rfl a3 M c3 L rfl rfl HCAP.out _) ?_
            go_wp2_with fail
            go_roundw
            case rel => exact ⟨j + 1, HI.out.2, congrArg (Value.int _) (by have := HI.out; omega), HOC.out, TA.out⟩
            case measure => have := HI.out; have := HP.out; simp [intOf]; omega
          · have hoB := own_alloc wr [(El.mk 24 1 14 0 ({ data := #[115] } : ByteArray) 0 0 ByteArray.empty ByteArray.empty ByteArray.empty), el0] (by decide)
            have t1 := turn_alloc wr 35 (elsV [(El.mk 24 1 14 0 ({ data := #[115] } : ByteArray) 0 0 ByteArray.empty ByteArray.empty ByteArray.empty), el0])
            obtain ⟨D, hD⟩ : ∃ D, wr.heap.size = D := ⟨_, rfl⟩
            obtain ⟨wb, hwb⟩ : ∃ wb, wr.alloc (.cells (elsV [(El.mk 24 1 14 0 ({ data := #[115] } : ByteArray) 0 0 ByteArray.empty ByteArray.empty ByteArray.empty), el0]).toArray 35) = wb := ⟨_, rfl⟩
            have hbl : ∀ ev op, op.op = .buildSlice 23 2 #[(0, .tmp 45), (1, .tmp 46)] → ev (.tmp 45) = .agg (El.mk 24 1 14 0 ({ data := #[115] } : ByteArray) 0 0 ByteArray.empty ByteArray.empty ByteArray.empty).vals.toArray → ev (.tmp 46) = .agg el0.vals.toArray → (execOp ev op).run Try.prog wr = .ok (.value (.slice (some ⟨D, 0, none⟩) 2 2)) wb := fun ev op ho h0 h1 => by rw [← hwb, ← hD]; exact exec_els2 ev op _ _ ho _ _ h0 h1 wr
            rw [hwb] at hoB t1
            rw [hD] at hoB
            have HOb := Lib.hid (HO.out.turn t1 (fun _ _ => id))
            have HTb := Lib.hid (HT.out.trans t1 (fun _ _ => id))
            obtain ⟨va, wa, hra, hoa, tta⟩ := app_els wb w.heap.size 23 23 Try.underlying23 (.slice ca N cc) (.slice (some ⟨D, 0, none⟩) 2 2) (sidL m j) [(El.mk 24 1 14 0 ({ data := #[115] } : ByteArray) 0 0 ByteArray.empty ByteArray.empty ByteArray.empty), el0] HOb.out (show OwV D wb (.slice (some ⟨D, 0, none⟩) 2 2) [(El.mk 24 1 14 0 ({ data := #[115] } : ByteArray) 0 0 ByteArray.empty ByteArray.empty ByteArray.empty), el0] from hoB).row HTb.out.size (by rw [sidL_len]; show m + 1 + j + 2 ≤ 1000000; have := HK.out; omega)
            have hoa2 : OwV w.heap.size wa va (sidL m j ++ [(El.mk 24 1 14 0 ({ data := #[115] } : ByteArray) 0 0 ByteArray.empty ByteArray.empty ByteArray.empty), el0]) := hoa
            obtain ⟨a3, c3, hva⟩ := hoa2.form
            obtain ⟨M, hM⟩ : ∃ M, (sidL m j ++ [(El.mk 24 1 14 0 ({ data := #[115] } : ByteArray) 0 0 ByteArray.empty ByteArray.empty ByteArray.empty), el0]).length = M := ⟨_, rfl⟩
            have hM2 : M = N + 2 := by rw [← hM, List.length_append, sidL_len, hN]; rfl
            rw [hM] at hva
            subst hva
            have hcap := hoa2.cap hM
            have hds : sidL m j ++ [(El.mk 24 1 14 0 ({ data := #[115] } : ByteArray) 0 0 ByteArray.empty ByteArray.empty ByteArray.empty)] = sidL m (j + 1) := by rw [sidL_succ, sE, hI]; rfl
            have hoc := own_cut (n := N + 1) (l := sidL m j ++ [(El.mk 24 1 14 0 ({ data := #[115] } : ByteArray) 0 0 ByteArray.empty ByteArray.empty ByteArray.empty)]) (x := el0) (by rw [List.append_assoc]; exact hoa2) (by rw [List.length_append, sidL_len, hN]; rfl) hM2
            rw [hds] at hoc
            have hle : j + 1 ≤ m := by omega
            have HRA := Lib.hid hra
            have HOC := Lib.hid hoc
            have TA := Lib.hid (turn_on HOb.out (Nat.le_refl _) HTb.out tta)
            have HI := Lib.hid (show (j : Int) = 4 ∧ j + 1 ≤ m from ⟨hI, hle⟩)
            have HBL := Lib.hid hbl
            obtain ⟨L, hL⟩ : ∃ L, N + 1 = L := ⟨_, rfl⟩
            rw [hL] at HOC
            have hw : wrap64 ((M : Int) - 1) = (L : Int) := by have := HK.out; unfold wrap64; omega
            have HW := Lib.hid hw
            have HW2 := Lib.hid (show (M : Int) - 1 = (L : Int) by omega)
            have HCAP := Lib.hid (show L ≤ c3 by omega)
            clear hra hoa hoa2 tta hds hI hle hoB t1 hD hwb hbl hM hM2 hcap hoc hL hw hjm hlt hN
            go_wp2_with (with_reducible (show wpList _ _ _ (Oper.mk (some 45) (.build 35 _) _ _ _ _ :: _) _ _); refine still ?_)
            refine list_exec rfl _ _ (exec_el0124 _ _ _ _ _ _ 24 1 14 ({ data := #[115] } : ByteArray) rfl rfl rfl rfl rfl _) ?_
            go_wp2_with (with_reducible (show wpList _ _ _ (Oper.mk (some 46) (.build 35 _) _ _ _ _ :: _) _ _); refine still ?_)
            refine list_exec rfl _ _ (exec_el _ _ rfl _) ?_
            go_wp2_with (with_reducible (show wpList _ _ _ (Oper.mk (some 47) (.buildSlice 23 _ _) _ _ _ _ :: _) _ _); refine still ?_)
            refine list_exec rfl _ _ (HBL.out _ _ rfl rfl rfl) ?_
            go_wp2_with (with_reducible (show wpList _ _ _ (Oper.mk (some 48) (_) _ _ _ _ :: _) _ _); refine still ?_)
            refine list_exec rfl _ _ (exec_append _ _ (.tmp 40) (.tmp 47) 23 rfl _ _ _ _ _ rfl rfl HRA.out) ?_
            go_wp2_with (with_reducible (show wpList _ _ _ (Oper.mk (some 53) (.slice 23 _ _ _ _) _ _ _ _ :: _) _ _); refine still ?_)
            first | rw [HW.out] | rw [HW2.out]
            refine list_exec rfl _ _ (exec_slice_hi _ _ rfl a3 M c3 L rfl rfl HCAP.out _) ?_
            go_wp2_with fail
            go_roundw
            case rel => exact ⟨j + 1, HI.out.2, congrArg (Value.int _) (by have := HI.out; omega), HOC.out, TA.out⟩
            case measure => have := HI.out; have := HP.out; simp [intOf]; omega
        · have hmk : j = m := by omega
          subst hmk
          have dk2 : decide ((j : Int) < P) = false := decide_eq_false (by have := HP.out; omega)
          clear hlt hjm
          have HN := Lib.hid hN
          clear hN
          go_wp2_with (with_reducible (show wpList _ _ _ (Oper.mk (some 54) (.build 26 _) _ _ _ _ :: _) _ _); refine still ?_)
          refine list_exec rfl _ _ (exec_fv0 _ _ rfl _) ?_
          obtain ⟨B, hB⟩ : ∃ B, wr.heap.size = B := ⟨_, rfl⟩
          obtain ⟨wz, hwz⟩ : ∃ wz, wr.alloc (.cells (fv 0 0).toArray 26) = wz := ⟨_, rfl⟩
          have hx2 : ∀ ev op, op.op = .alloc 26 → (execOp ev op).run Try.prog wr = .ok (.value (.pointer (some ⟨B, 0, none⟩))) wz := fun ev op ho => by rw [← hwz, ← hB]; exact exec_zero26 ev op ho _
          have hb2 := box_alloc wr 26 (fv 0 0)
          rw [hwz] at hb2
          have hh2 := hb2.heap
          rw [hB] at hh2
          have HX2 := Lib.hid hx2
          have HB2 := Lib.hid hb2
          have HH2 := Lib.hid hh2
          have HE2 := Lib.hid hB
          clear hb2 hB hwz hx2 hh2
          go_wp2_with (with_reducible (show wpList _ _ _ (Oper.mk (some 11) (.alloc 26) _ _ _ _ :: _) _ _); refine still ?_)
          refine list_exec rfl _ _ (HX2.out _ _ rfl) ?_
          go_wp2_with (with_reducible (show wpList _ _ _ (Oper.mk none (.store 26 (.tmp 11) (.tmp 54)) _ _ _ _ :: _) _ _); refine still ?_)
          refine list_put wz B 26 (fv 0 0) (fv 0 0) HH2.out rfl (fv_one _ _) fv_info rfl (.tmp 11) (.tmp 54) rfl rfl rfl (fun w2 hw2 tw2 => ?_)
          have Pw2 := Lib.hid hw2
          have Uw2 := Lib.hid (HB2.out.turn.trans tw2 (fun q hq e => by have := HE2.out; omega))
          clear hw2 tw2
          have HO2 := Lib.hid (HO.out.turn Uw2.out (fun _ _ => id))
          have T2 := Lib.hid (HT.out.trans Uw2.out (fun _ _ => id))
          have HBW := Lib.hid (show w.heap.size ≤ B from by have := HE2.out; have := HT.out.size; omega)
          cases other
          · skip
            go_wp2_with fail
            have HCC := Lib.hid (show checkE (sidL j j) = (0, 0) from HC.out.1)
            refine wp_region_held_drew (S := fun wq => wq.rangeAt B 0 (fv 0 0)) (by kernel_rfl) (range_of Pw2.out) (fun hHeld => ?_)
            refine wpAnyH_ready (rs := [0]) (by kernel_rfl) (by simp) ?_
            refine AllReadyH.cons rfl (fun K hK => ?_) AllReadyH.nil
            go_simp
            refine (awake_any w2.drew).mono ?_
            rintro r w4 ⟨rfl, t4⟩
            have U4 := Lib.hid (show Turn (fun _ => False) w2 w4 from (Turn.refl (fun _ => False) w2).drew.trans t4 (fun _ _ => id))
            clear t4
            refine hK.out _ _ (rangeAt_turn (range_of Pw2.out) U4.out id) (fun _ => ?_)
            clear hK K
            try simp only [Act.put, List.setIfInBounds_toArray, List.set_cons_zero, List.set_cons_succ, List.getElem_toArray, List.getElem_cons_zero, List.getElem_cons_succ]
            refine wpAnyH_take (i := 1) (v := .bool true) rfl (by kernel_rfl) (by kernel_rfl) (by kernel_rfl) (fun _ _ _ h => h) (Or.inl ⟨by rfl, ?yq1⟩) (by assumption) ?rq1
            case yq1 => (intro wq hSw; (try simp only [List.getElem_toArray, List.getElem_cons_zero, List.getElem_cons_succ]); go_simp; (try with_reducible rfl); all_goals (try omega))
            case rq1 =>
            try simp only [Act.put, List.setIfInBounds_toArray, List.set_cons_zero, List.set_cons_succ, List.getElem_toArray, List.getElem_cons_zero, List.getElem_cons_succ]
            refine wpAnyH_take (i := 2) (v := .slice ca N cc) rfl (by kernel_rfl) (by kernel_rfl) (by kernel_rfl) (fun _ _ _ h => h) (Or.inl ⟨by rfl, ?yq2⟩) (by assumption) ?rq2
            case yq2 => (intro wq hSw; (try simp only [List.getElem_toArray, List.getElem_cons_zero, List.getElem_cons_succ]); go_simp; (try with_reducible rfl); all_goals (try omega))
            case rq2 =>
            try simp only [Act.put, List.setIfInBounds_toArray, List.set_cons_zero, List.set_cons_succ, List.getElem_toArray, List.getElem_cons_zero, List.getElem_cons_succ]
            refine wpAnyH_take (i := 4) (v := .agg (fv 0 0).toArray) rfl (by kernel_rfl) (by kernel_rfl) (by kernel_rfl) (fun _ _ _ h => h) (Or.inl ⟨by rfl, ?yq3⟩) (by assumption) ?rq3
            case yq3 => (intro wq hSw; exact exec_load_mid _ _ 26 (.tmp 11) rfl B 0 rfl (fv 0 0) _ wq hSw Try.underlying26 rfl fv_info)
            case rq3 =>
            try simp only [Act.put, List.setIfInBounds_toArray, List.set_cons_zero, List.set_cons_succ, List.getElem_toArray, List.getElem_cons_zero, List.getElem_cons_succ]
            refine wpAnyH_ready (rs := [3]) (by kernel_rfl) (by simp) ?_
            refine AllReadyH.cons rfl (fun K hK => ?_) AllReadyH.nil
            go_simp
            refine (rcheck_any w4 _ (sidL j j) (HO2.out.turn U4.out (fun _ _ => id)).row (by rw [sidL_len]; have := HK.out; omega)).mono ?_
            rw [HCC.out]
            rintro r w5 ⟨rfl, t5⟩
            have U5 := Lib.hid (U4.out.trans t5 (fun _ _ => id))
            clear t5
            refine hK.out _ _ (rangeAt_turn (range_of Pw2.out) U5.out id) (fun _ => ?_)
            clear hK K
            try simp only [Act.put, List.setIfInBounds_toArray, List.set_cons_zero, List.set_cons_succ, List.getElem_toArray, List.getElem_cons_zero, List.getElem_cons_succ]
            refine wpAnyH_take (i := 5) (v := .bool true) rfl (by kernel_rfl) (by kernel_rfl) (by kernel_rfl) (fun _ _ _ h => h) (Or.inl ⟨by rfl, ?yq4⟩) (by assumption) ?rq4
            case yq4 => (intro wq hSw; exact exec_eql_fv1 _ _ rfl 0 0 _ rfl rfl)
            case rq4 =>
            try simp only [Act.put, List.setIfInBounds_toArray, List.set_cons_zero, List.set_cons_succ, List.getElem_toArray, List.getElem_cons_zero, List.getElem_cons_succ]
            refine wpAnyH_take (i := 6) (v := .bool true) rfl (by kernel_rfl) (by kernel_rfl) (by kernel_rfl) (fun _ _ _ h => h) (Or.inl ⟨by rfl, ?yq5⟩) (by assumption) ?rq5
            case yq5 => (intro wq hSw; (try simp only [List.getElem_toArray, List.getElem_cons_zero, List.getElem_cons_succ]); go_simp; (try with_reducible rfl); all_goals (try omega))
            case rq5 =>
            try simp only [Act.put, List.setIfInBounds_toArray, List.set_cons_zero, List.set_cons_succ, List.getElem_toArray, List.getElem_cons_zero, List.getElem_cons_succ]
            refine wpAnyH_take (i := 7) (v := .bool true) rfl (by kernel_rfl) (by kernel_rfl) (by kernel_rfl) (fun _ _ _ h => h) (Or.inl ⟨by rfl, ?yq6⟩) (by assumption) ?rq6
            case yq6 => (intro wq hSw; (try simp only [List.getElem_toArray, List.getElem_cons_zero, List.getElem_cons_succ]); go_simp; (try with_reducible rfl); all_goals (try omega))
            case rq6 =>
            try simp only [Act.put, List.setIfInBounds_toArray, List.set_cons_zero, List.set_cons_succ, List.getElem_toArray, List.getElem_cons_zero, List.getElem_cons_succ]
            refine wpAnyH_done (by kernel_rfl) ?_ _
            clear hHeld
            go_wp2_with fail
            go_ret
            exact ⟨rfl, T2.out.trans U5.out (fun _ _ => id)⟩
          · have hrow2 := own_bytes2 w2
            have t3 := (box_alloc w2 5 [.int .u8 3, .int .u8 4]).turn
            obtain ⟨D, hD⟩ : ∃ D, w2.heap.size = D := ⟨_, rfl⟩
            obtain ⟨wo, hwo⟩ : ∃ wo, w2.alloc (.cells #[.int .u8 3, .int .u8 4] 5) = wo := ⟨_, rfl⟩
            obtain ⟨k0, k1⟩ := hrow2
            rw [hwo, hD] at k0 k1
            rw [hwo] at t3
            have HO3 := Lib.hid (HO2.out.turn t3 (fun _ _ => id))
            have T3 := Lib.hid (T2.out.trans t3 (fun _ _ => id))
            have P3 := Lib.hid ((t3.block B (Array.getElem?_eq_some_iff.1 Pw2.out).1 (fun e => e)).trans Pw2.out)
            clear t3
            rcases HKD.out with hkr | hkr
            · have hkr : kd.tmod 2 = 0 := hkr
              obtain ⟨va, wa, hra, hoa, tta, a3, c3, hva⟩ := app_one wo w.heap.size 23 23 Try.underlying23 (.slice ca N cc) (sidL j j) (lastE 3) HO3.out T3.out.size (by rw [sidL_len]; have := HK.out; omega)
              rw [sidL_len, HN.out] at hva
              subst hva
              have hdl : (sidL j j ++ [(lastE 3)]).length = N + 1 := by rw [List.length_append, sidL_len, HN.out]; rfl
              have HRA := Lib.hid hra
              have HOA := Lib.hid (show OwV w.heap.size wa (.slice a3 (N + 1) c3) (sidL j j ++ [(lastE 3)]) from hoa)
              have TA := Lib.hid (turn_on HO3.out (Nat.le_refl _) T3.out tta)
              have HNE0 := Lib.hid (app_ne HO3.out P3.out)
              have PA := Lib.hid ((tta.block B (Array.getElem?_eq_some_iff.1 P3.out).1 (fun e => HNE0.out B e rfl)).trans P3.out)
              have HNE := Lib.hid (app_ne HOA.out PA.out)
              have HDL := Lib.hid hdl
              clear hra hoa tta hdl
              go_wp2_with (with_reducible (show wpList _ _ _ (Oper.mk (some 62) (.build 35 _) _ _ _ _ :: _) _ _); refine still ?_)
              refine list_exec rfl _ _ (exec_el012 _ _ _ _ _ 30 3 1 rfl rfl rfl rfl _) ?_
              clear hwo k0 k1
              go_wp2_with (with_reducible (show wpList _ _ _ (Oper.mk (some 63) (.buildSlice 23 _ _) _ _ _ _ :: _) _ _); refine still ?_)
              refine list_exec rfl _ _ (exec_build_one _ _ (.tmp 62) 23 Try.underlying23 rfl (lastE 3) rfl _) ?_
              go_wp2_with (with_reducible (show wpList _ _ _ (Oper.mk (some 64) (_) _ _ _ _ :: _) _ _); refine still ?_)
              refine list_exec rfl _ _ (exec_append _ _ (.tmp 56) (.tmp 63) 23 rfl _ _ _ _ _ rfl rfl HRA.out) ?_
              go_wp2_with (with_reducible (show wpList _ _ _ (Oper.mk (some 65) (.build 26 _) _ _ _ _ :: _) _ _); refine still ?_)
              refine list_exec rfl _ _ (exec_fvB _ _ _ _ 8 1 rfl rfl rfl _) ?_
              go_wp2_with (with_reducible (show wpList _ _ _ (Oper.mk none (.store 26 (.tmp 11) (.tmp 65)) _ _ _ _ :: _) _ _); refine still ?_)
              refine list_put wa B 26 (fv 0 0) (fv 8 1) PA.out rfl (fv_one _ _) fv_info rfl (.tmp 11) (.tmp 65) rfl rfl rfl (fun w3 h3 t3 => ?_)
              have P4 := Lib.hid h3
              have T4 := Lib.hid (TA.out.trans t3 (fun q hq e => by have := HBW.out; omega))
              have HO4 := Lib.hid (HOA.out.turn t3 (fun q hq e => HNE.out q hq e))
              clear h3 t3
              go_wp2_with fail
              have HCC := Lib.hid (show checkE (sidL j j ++ [(lastE 3)]) = (8, 1) from HC.out.2.1)
              refine wp_region_held_drew (S := fun wq => wq.rangeAt B 0 (fv 8 1)) (by kernel_rfl) (range_of P4.out) (fun hHeld => ?_)
              refine wpAnyH_ready (rs := [0]) (by kernel_rfl) (by simp) ?_
              refine AllReadyH.cons rfl (fun K hK => ?_) AllReadyH.nil
              go_simp
              refine (awake_any w3.drew).mono ?_
              rintro r w4 ⟨rfl, t4⟩
              have U4 := Lib.hid (show Turn (fun _ => False) w3 w4 from (Turn.refl (fun _ => False) w3).drew.trans t4 (fun _ _ => id))
              clear t4
              refine hK.out _ _ (rangeAt_turn (range_of P4.out) U4.out id) (fun _ => ?_)
              clear hK K
              try simp only [Act.put, List.setIfInBounds_toArray, List.set_cons_zero, List.set_cons_succ, List.getElem_toArray, List.getElem_cons_zero, List.getElem_cons_succ]
              refine wpAnyH_take (i := 1) (v := .bool true) rfl (by kernel_rfl) (by kernel_rfl) (by kernel_rfl) (fun _ _ _ h => h) (Or.inl ⟨by rfl, ?yq7⟩) (by assumption) ?rq7
              case yq7 => (intro wq hSw; (try simp only [List.getElem_toArray, List.getElem_cons_zero, List.getElem_cons_succ]); go_simp; (try with_reducible rfl); all_goals (try omega))
              case rq7 =>
              try simp only [Act.put, List.setIfInBounds_toArray, List.set_cons_zero, List.set_cons_succ, List.getElem_toArray, List.getElem_cons_zero, List.getElem_cons_succ]
              refine wpAnyH_take (i := 2) (v := .slice a3 (N + 1) c3) rfl (by kernel_rfl) (by kernel_rfl) (by kernel_rfl) (fun _ _ _ h => h) (Or.inl ⟨by rfl, ?yq8⟩) (by assumption) ?rq8
              case yq8 => (intro wq hSw; (try simp only [List.getElem_toArray, List.getElem_cons_zero, List.getElem_cons_succ]); go_simp; (try with_reducible rfl); all_goals (try omega))
              case rq8 =>
              try simp only [Act.put, List.setIfInBounds_toArray, List.set_cons_zero, List.set_cons_succ, List.getElem_toArray, List.getElem_cons_zero, List.getElem_cons_succ]
              refine wpAnyH_take (i := 4) (v := .agg (fv 8 1).toArray) rfl (by kernel_rfl) (by kernel_rfl) (by kernel_rfl) (fun _ _ _ h => h) (Or.inl ⟨by rfl, ?yq9⟩) (by assumption) ?rq9
              case yq9 => (intro wq hSw; exact exec_load_mid _ _ 26 (.tmp 11) rfl B 0 rfl (fv 8 1) _ wq hSw Try.underlying26 rfl fv_info)
              case rq9 =>
              try simp only [Act.put, List.setIfInBounds_toArray, List.set_cons_zero, List.set_cons_succ, List.getElem_toArray, List.getElem_cons_zero, List.getElem_cons_succ]
              refine wpAnyH_ready (rs := [3]) (by kernel_rfl) (by simp) ?_
              refine AllReadyH.cons rfl (fun K hK => ?_) AllReadyH.nil
              go_simp
              refine (rcheck_any w4 _ (sidL j j ++ [(lastE 3)]) (HO4.out.turn U4.out (fun _ _ => id)).row (by rw [HDL.out]; have := HN.out; have := HK.out; omega)).mono ?_
              rw [HCC.out]
              rintro r w5 ⟨rfl, t5⟩
              have U5 := Lib.hid (U4.out.trans t5 (fun _ _ => id))
              clear t5
              refine hK.out _ _ (rangeAt_turn (range_of P4.out) U5.out id) (fun _ => ?_)
              clear hK K
              try simp only [Act.put, List.setIfInBounds_toArray, List.set_cons_zero, List.set_cons_succ, List.getElem_toArray, List.getElem_cons_zero, List.getElem_cons_succ]
              refine wpAnyH_take (i := 5) (v := .bool true) rfl (by kernel_rfl) (by kernel_rfl) (by kernel_rfl) (fun _ _ _ h => h) (Or.inl ⟨by rfl, ?yq10⟩) (by assumption) ?rq10
              case yq10 => (intro wq hSw; exact exec_eql_fv1 _ _ rfl 8 1 _ rfl rfl)
              case rq10 =>
              try simp only [Act.put, List.setIfInBounds_toArray, List.set_cons_zero, List.set_cons_succ, List.getElem_toArray, List.getElem_cons_zero, List.getElem_cons_succ]
              refine wpAnyH_take (i := 6) (v := .bool true) rfl (by kernel_rfl) (by kernel_rfl) (by kernel_rfl) (fun _ _ _ h => h) (Or.inl ⟨by rfl, ?yq11⟩) (by assumption) ?rq11
              case yq11 => (intro wq hSw; (try simp only [List.getElem_toArray, List.getElem_cons_zero, List.getElem_cons_succ]); go_simp; (try with_reducible rfl); all_goals (try omega))
              case rq11 =>
              try simp only [Act.put, List.setIfInBounds_toArray, List.set_cons_zero, List.set_cons_succ, List.getElem_toArray, List.getElem_cons_zero, List.getElem_cons_succ]
              refine wpAnyH_take (i := 7) (v := .bool true) rfl (by kernel_rfl) (by kernel_rfl) (by kernel_rfl) (fun _ _ _ h => h) (Or.inl ⟨by rfl, ?yq12⟩) (by assumption) ?rq12
              case yq12 => (intro wq hSw; (try simp only [List.getElem_toArray, List.getElem_cons_zero, List.getElem_cons_succ]); go_simp; (try with_reducible rfl); all_goals (try omega))
              case rq12 =>
              try simp only [Act.put, List.setIfInBounds_toArray, List.set_cons_zero, List.set_cons_succ, List.getElem_toArray, List.getElem_cons_zero, List.getElem_cons_succ]
              refine wpAnyH_done (by kernel_rfl) ?_ _
              clear hHeld
              go_wp2_with fail
              go_ret
              exact ⟨rfl, T4.out.trans U5.out (fun _ _ => id)⟩
            · have hkr : kd.tmod 2 = 1 := hkr
              obtain ⟨va, wa, hra, hoa, tta, a3, c3, hva⟩ := app_one wo w.heap.size 23 23 Try.underlying23 (.slice ca N cc) (sidL j j) (lastE 4) HO3.out T3.out.size (by rw [sidL_len]; have := HK.out; omega)
              rw [sidL_len, HN.out] at hva
              subst hva
              have hdl : (sidL j j ++ [(lastE 4)]).length = N + 1 := by rw [List.length_append, sidL_len, HN.out]; rfl
              have HRA := Lib.hid hra
              have HOA := Lib.hid (show OwV w.heap.size wa (.slice a3 (N + 1) c3) (sidL j j ++ [(lastE 4)]) from hoa)
              have TA := Lib.hid (turn_on HO3.out (Nat.le_refl _) T3.out tta)
              have HNE0 := Lib.hid (app_ne HO3.out P3.out)
              have PA := Lib.hid ((tta.block B (Array.getElem?_eq_some_iff.1 P3.out).1 (fun e => HNE0.out B e rfl)).trans P3.out)
              have HNE := Lib.hid (app_ne HOA.out PA.out)
              have HDL := Lib.hid hdl
              clear hra hoa tta hdl
              go_wp2_with (with_reducible (show wpList _ _ _ (Oper.mk (some 62) (.build 35 _) _ _ _ _ :: _) _ _); refine still ?_)
              refine list_exec rfl _ _ (exec_el012 _ _ _ _ _ 30 4 1 rfl rfl rfl rfl _) ?_
              clear hwo k0 k1
              go_wp2_with (with_reducible (show wpList _ _ _ (Oper.mk (some 63) (.buildSlice 23 _ _) _ _ _ _ :: _) _ _); refine still ?_)
              refine list_exec rfl _ _ (exec_build_one _ _ (.tmp 62) 23 Try.underlying23 rfl (lastE 4) rfl _) ?_
              go_wp2_with (with_reducible (show wpList _ _ _ (Oper.mk (some 64) (_) _ _ _ _ :: _) _ _); refine still ?_)
              refine list_exec rfl _ _ (exec_append _ _ (.tmp 56) (.tmp 63) 23 rfl _ _ _ _ _ rfl rfl HRA.out) ?_
              go_wp2_with (with_reducible (show wpList _ _ _ (Oper.mk (some 65) (.build 26 _) _ _ _ _ :: _) _ _); refine still ?_)
              refine list_exec rfl _ _ (exec_fvB _ _ _ _ 8 1 rfl rfl rfl _) ?_
              go_wp2_with (with_reducible (show wpList _ _ _ (Oper.mk none (.store 26 (.tmp 11) (.tmp 65)) _ _ _ _ :: _) _ _); refine still ?_)
              refine list_put wa B 26 (fv 0 0) (fv 8 1) PA.out rfl (fv_one _ _) fv_info rfl (.tmp 11) (.tmp 65) rfl rfl rfl (fun w3 h3 t3 => ?_)
              have P4 := Lib.hid h3
              have T4 := Lib.hid (TA.out.trans t3 (fun q hq e => by have := HBW.out; omega))
              have HO4 := Lib.hid (HOA.out.turn t3 (fun q hq e => HNE.out q hq e))
              clear h3 t3
              go_wp2_with fail
              have HCC := Lib.hid (show checkE (sidL j j ++ [(lastE 4)]) = (8, 1) from HC.out.2.2)
              refine wp_region_held_drew (S := fun wq => wq.rangeAt B 0 (fv 8 1)) (by kernel_rfl) (range_of P4.out) (fun hHeld => ?_)
              refine wpAnyH_ready (rs := [0]) (by kernel_rfl) (by simp) ?_
              refine AllReadyH.cons rfl (fun K hK => ?_) AllReadyH.nil
              go_simp
              refine (awake_any w3.drew).mono ?_
              rintro r w4 ⟨rfl, t4⟩
              have U4 := Lib.hid (show Turn (fun _ => False) w3 w4 from (Turn.refl (fun _ => False) w3).drew.trans t4 (fun _ _ => id))
              clear t4
              refine hK.out _ _ (rangeAt_turn (range_of P4.out) U4.out id) (fun _ => ?_)
              clear hK K
              try simp only [Act.put, List.setIfInBounds_toArray, List.set_cons_zero, List.set_cons_succ, List.getElem_toArray, List.getElem_cons_zero, List.getElem_cons_succ]
              refine wpAnyH_take (i := 1) (v := .bool true) rfl (by kernel_rfl) (by kernel_rfl) (by kernel_rfl) (fun _ _ _ h => h) (Or.inl ⟨by rfl, ?yq13⟩) (by assumption) ?rq13
              case yq13 => (intro wq hSw; (try simp only [List.getElem_toArray, List.getElem_cons_zero, List.getElem_cons_succ]); go_simp; (try with_reducible rfl); all_goals (try omega))
              case rq13 =>
              try simp only [Act.put, List.setIfInBounds_toArray, List.set_cons_zero, List.set_cons_succ, List.getElem_toArray, List.getElem_cons_zero, List.getElem_cons_succ]
              refine wpAnyH_take (i := 2) (v := .slice a3 (N + 1) c3) rfl (by kernel_rfl) (by kernel_rfl) (by kernel_rfl) (fun _ _ _ h => h) (Or.inl ⟨by rfl, ?yq14⟩) (by assumption) ?rq14
              case yq14 => (intro wq hSw; (try simp only [List.getElem_toArray, List.getElem_cons_zero, List.getElem_cons_succ]); go_simp; (try with_reducible rfl); all_goals (try omega))
              case rq14 =>
              try simp only [Act.put, List.setIfInBounds_toArray, List.set_cons_zero, List.set_cons_succ, List.getElem_toArray, List.getElem_cons_zero, List.getElem_cons_succ]
              refine wpAnyH_take (i := 4) (v := .agg (fv 8 1).toArray) rfl (by kernel_rfl) (by kernel_rfl) (by kernel_rfl) (fun _ _ _ h => h) (Or.inl ⟨by rfl, ?yq15⟩) (by assumption) ?rq15
              case yq15 => (intro wq hSw; exact exec_load_mid _ _ 26 (.tmp 11) rfl B 0 rfl (fv 8 1) _ wq hSw Try.underlying26 rfl fv_info)
              case rq15 =>
              try simp only [Act.put, List.setIfInBounds_toArray, List.set_cons_zero, List.set_cons_succ, List.getElem_toArray, List.getElem_cons_zero, List.getElem_cons_succ]
              refine wpAnyH_ready (rs := [3]) (by kernel_rfl) (by simp) ?_
              refine AllReadyH.cons rfl (fun K hK => ?_) AllReadyH.nil
              go_simp
              refine (rcheck_any w4 _ (sidL j j ++ [(lastE 4)]) (HO4.out.turn U4.out (fun _ _ => id)).row (by rw [HDL.out]; have := HN.out; have := HK.out; omega)).mono ?_
              rw [HCC.out]
              rintro r w5 ⟨rfl, t5⟩
              have U5 := Lib.hid (U4.out.trans t5 (fun _ _ => id))
              clear t5
              refine hK.out _ _ (rangeAt_turn (range_of P4.out) U5.out id) (fun _ => ?_)
              clear hK K
              try simp only [Act.put, List.setIfInBounds_toArray, List.set_cons_zero, List.set_cons_succ, List.getElem_toArray, List.getElem_cons_zero, List.getElem_cons_succ]
              refine wpAnyH_take (i := 5) (v := .bool true) rfl (by kernel_rfl) (by kernel_rfl) (by kernel_rfl) (fun _ _ _ h => h) (Or.inl ⟨by rfl, ?yq16⟩) (by assumption) ?rq16
              case yq16 => (intro wq hSw; exact exec_eql_fv1 _ _ rfl 8 1 _ rfl rfl)
              case rq16 =>
              try simp only [Act.put, List.setIfInBounds_toArray, List.set_cons_zero, List.set_cons_succ, List.getElem_toArray, List.getElem_cons_zero, List.getElem_cons_succ]
              refine wpAnyH_take (i := 6) (v := .bool true) rfl (by kernel_rfl) (by kernel_rfl) (by kernel_rfl) (fun _ _ _ h => h) (Or.inl ⟨by rfl, ?yq17⟩) (by assumption) ?rq17
              case yq17 => (intro wq hSw; (try simp only [List.getElem_toArray, List.getElem_cons_zero, List.getElem_cons_succ]); go_simp; (try with_reducible rfl); all_goals (try omega))
              case rq17 =>
              try simp only [Act.put, List.setIfInBounds_toArray, List.set_cons_zero, List.set_cons_succ, List.getElem_toArray, List.getElem_cons_zero, List.getElem_cons_succ]
              refine wpAnyH_take (i := 7) (v := .bool true) rfl (by kernel_rfl) (by kernel_rfl) (by kernel_rfl) (fun _ _ _ h => h) (Or.inl ⟨by rfl, ?yq18⟩) (by assumption) ?rq18
              case yq18 => (intro wq hSw; (try simp only [List.getElem_toArray, List.getElem_cons_zero, List.getElem_cons_succ]); go_simp; (try with_reducible rfl); all_goals (try omega))
              case rq18 =>
              try simp only [Act.put, List.setIfInBounds_toArray, List.set_cons_zero, List.set_cons_succ, List.getElem_toArray, List.getElem_cons_zero, List.getElem_cons_succ]
              refine wpAnyH_done (by kernel_rfl) ?_ _
              clear hHeld
              go_wp2_with fail
              go_ret
              exact ⟨rfl, T4.out.trans U5.out (fun _ _ => id)⟩

end Go.Proofs.Ytifhnidcodhoeaa
