/- Own contracts: deep: the law. No statement is proved here. -/
import Derived.Test.YtifhnidcodhoeaaDpk
namespace Go.Proofs.Ytifhnidcodhoeaa
set_option maxRecDepth 100000
open Go.RowKit
set_option linter.unusedVariables false
set_option linter.unusedSimpArgs false

set_option maxHeartbeats 4000000 in
theorem deep_law (w : World) (nn : Int) (ring : Bool) (hh : 0 ≤ nn ∧ nn < 256) : Calls Try.prog 6 #[.int .u8 nn, .bool ring] w fun e w' => e = .returned (.bool true) ∧ Turn (fun _ => False) w w' := by
  have hm : nn.tmod 40 = nn % 40 := Int.tmod_eq_emod_of_nonneg hh.1
  obtain ⟨Q, hQ⟩ : ∃ Q : Int, nn.tmod 40 = Q := ⟨_, rfl⟩
  have hq : 0 ≤ Q ∧ Q < 40 := by omega
  obtain ⟨q, hqe⟩ : ∃ q : Nat, Q = (q : Int) := ⟨Q.toNat, by omega⟩
  have hC := deep_check ⟨q, by omega⟩
  have hR := ring_check ⟨q, by omega⟩
  obtain ⟨K, hK⟩ : ∃ K : Nat, q + 1 = K := ⟨_, rfl⟩
  simp only [hK] at hC hR
  have HQK := Lib.hid (show 1 + Q = (K : Int) by omega)
  have HC := Lib.hid hC
  have HR := Lib.hid hR
  have HK := Lib.hid (show 1 ≤ K ∧ K ≤ 40 by omega)
  clear hh hm hC hR hK hqe
  go_enter Try.func6, Try.ntmps6
  go_wp2_with fail
  clear hQ hq
  go_loopw [6, 7] (fun cv iv wr => ∃ m : Nat, m ≤ K ∧ iv = .int .i64 ((m : Int) + 1) ∧ OwV w.heap.size wr cv (deepL m) ∧ Turn (fun _ => False) w wr) (fun _ iv _ => (1 + Q + 1 - intOf iv).toNat)
  case atStart => exact ⟨0, Nat.zero_le _, rfl, OwV.nil _ _, Turn.refl _ _⟩
  case round =>
    obtain ⟨m, hmK, rfl, how, htr⟩ := hrel
    obtain ⟨ca, cc, hform⟩ := how.form
    subst hform
    simp only [deepL_len] at how ⊢
    have HO := Lib.hid how
    have HT := Lib.hid htr
    clear how htr
    obtain ⟨I, hI⟩ : ∃ I : Int, (m : Int) + 1 = I := ⟨_, rfl⟩
    rw [hI]
    by_cases hlt : m < K
    · have dk : decide (I ≤ 1 + Q) = true := decide_eq_true (by have := HQK.out; omega)
      have hw1 : wrap64 (I + 1) = I + 1 := by have := HK.out; unfold wrap64; omega
      have hw2 : wrap64 (I - 1) = (m : Int) := by have := HK.out; unfold wrap64; omega
      obtain ⟨va, wa, hra, hoa, tta, a3, c3, hva⟩ := app_one wr w.heap.size 23 23 Try.underlying23 (.slice ca m cc) (deepL m) (El.mk I 1 (wrap64 (I - 1)) 0 ({ data := #[115] } : ByteArray) 0 0 ByteArray.empty ByteArray.empty ByteArray.empty) (by have := HO.out; unfold OwV at this; rwa [deepL_len] at this ⊢) HT.out.size (by rw [deepL_len]; have := HK.out; omega)
      rw [deepL_len] at hva
      subst hva
      have HRA := Lib.hid hra
      have hds : deepL m ++ [El.mk I 1 (wrap64 (I - 1)) 0 ({ data := #[115] } : ByteArray) 0 0 ByteArray.empty ByteArray.empty ByteArray.empty] = deepL (m + 1) := by rw [deepL_succ, dE, hI, hw2]
      rw [hds] at hoa
      have HOA := Lib.hid (show OwV w.heap.size wa (.slice a3 (m + 1) c3) (deepL (m + 1)) from hoa)
      have TA := Lib.hid (turn_on HO.out (Nat.le_refl _) HT.out tta)
      have HI := Lib.hid (show (m : Int) + 1 = I ∧ m < K from ⟨hI, hlt⟩)
      have HW1 := Lib.hid hw1
      clear hra hoa tta hds hI hlt hw2
      go_wp2_with (with_reducible (show wpList _ _ _ (Oper.mk (some 22) (.build 35 _) _ _ _ _ :: _) _ _); refine still ?_)
      refine list_exec rfl _ _ (exec_el0142 _ _ _ _ _ _ I 1 ({ data := #[115] } : ByteArray) (wrap64 (I - 1)) rfl rfl rfl rfl rfl _) ?_
      go_wp2_with (with_reducible (show wpList _ _ _ (Oper.mk (some 23) (.buildSlice 23 _ _) _ _ _ _ :: _) _ _); refine still ?_)
      refine list_exec rfl _ _ (exec_build_one _ _ (.tmp 22) 23 Try.underlying23 rfl (El.mk I 1 (wrap64 (I - 1)) 0 ({ data := #[115] } : ByteArray) 0 0 ByteArray.empty ByteArray.empty ByteArray.empty) rfl _) ?_
      go_wp2_with (with_reducible (show wpList _ _ _ (Oper.mk (some 24) (_) _ _ _ _ :: _) _ _); refine still ?_)
      refine list_exec rfl _ _ (exec_append _ _ (.tmp 18) (.tmp 23) 23 rfl _ _ _ _ _ rfl rfl HRA.out) ?_
      go_wp2_with fail
      go_roundw
      case rel => exact ⟨m + 1, by have := HI.out; omega, congrArg (Value.int _) (by have := HI.out; first | omega | (rw [HW1.out]; omega)), HOA.out, TA.out⟩
      case measure => have := HI.out; have := HQK.out; first | (simp [intOf]; omega) | (simp [intOf, hw1]; omega)
    · have hmk : m = K := by omega
      subst hmk
      have dk : decide (I ≤ 1 + Q) = false := decide_eq_false (by have := HQK.out; omega)
      clear hI hlt
      obtain ⟨G, hca, hG1, hG2⟩ := HO.out.at (deepL_len m) (by have := HK.out; omega)
      subst hca
      have HG := Lib.hid hG1
      clear hG1 hG2
      cases ring
      · skip
        go_wp2_with fail
        refine (rcheck_any wr _ (deepL m) HO.out.row (by rw [deepL_len]; have := HK.out; omega)).mono ?_
        rw [HC.out]
        rintro r w6 ⟨rfl, t6⟩
        have T6 := Lib.hid (HT.out.trans t6 (fun _ _ => id))
        clear t6
        obtain ⟨B, hB⟩ : ∃ B, w6.heap.size = B := ⟨_, rfl⟩
        obtain ⟨wz, hwz⟩ : ∃ wz, w6.alloc (.cells (fv 0 0).toArray 26) = wz := ⟨_, rfl⟩
        have hx4 : ∀ ev op, op.op = .alloc 26 → (execOp ev op).run Try.prog w6 = .ok (.value (.pointer (some ⟨B, 0, none⟩))) wz := fun ev op ho => by rw [← hwz, ← hB]; exact exec_zero26 ev op ho _
        have hb4 := box_alloc w6 26 (fv 0 0)
        rw [hwz] at hb4
        have hh4 := hb4.heap
        rw [hB] at hh4
        have HX4 := Lib.hid hx4
        have HB4 := Lib.hid hb4
        have HH4 := Lib.hid hh4
        have HE4 := Lib.hid hB
        clear hb4 hB hwz hx4 hh4
        go_wp2_with (with_reducible (show wpList _ _ _ (Oper.mk (some 8) (.alloc 26) _ _ _ _ :: _) _ _); refine still ?_)
        refine list_exec rfl _ _ (HX4.out _ _ rfl) ?_
        go_wp2_with (with_reducible (show wpList _ _ _ (Oper.mk none (.store 26 (.tmp 8) (.tmp 31)) _ _ _ _ :: _) _ _); refine still ?_)
        refine list_put wz B 26 (fv 0 0) (fv 0 0) HH4.out rfl (fv_one _ _) fv_info rfl (.tmp 8) (.tmp 31) rfl rfl rfl (fun w7 hw7 tw7 => ?_)
        have Pw7 := Lib.hid hw7
        have Uw7 := Lib.hid (HB4.out.turn.trans tw7 (fun q hq e => by have := HE4.out; omega))
        clear hw7 tw7
        have T7 := Lib.hid (T6.out.trans Uw7.out (fun _ _ => id))
        go_wp2_with fail
        refine (awake_any w7).mono ?_
        rintro r w8 ⟨rfl, t8⟩
        have T8 := Lib.hid (T7.out.trans t8 (fun _ _ => id))
        have c0 : w8.cell? ⟨B, 0, none⟩ = some (.int .i64 0) := by have := (rangeAt_turn (range_of Pw7.out) t8 id) 0 _ rfl; rwa [Nat.zero_add] at this
        clear t8
        go_wp2_with fail
        go_ret
        exact ⟨rfl, T8.out⟩
      · obtain ⟨hs, hf⟩ := own_set (base := w.heap.size) (n := m) (by have := HO.out; unfold OwV at this; rwa [deepL_len] at this) (deepL_len m) 0 (by have := HK.out; omega) 2 (by decide) (.int .i64 (1 + Q)) { (deepL m).getD 0 el0 with par := 1 + Q } rfl
        have tn : Turn (fun q => q = G) wr (wr.setCell ⟨G, 0 * 10 + 2, none⟩ (.int .i64 (1 + Q))) := (Turn.refl (fun q => q = G) wr).setCell (p := ⟨G, 0 * 10 + 2, none⟩) (fun _ => rfl) _
        obtain ⟨cv, hcv⟩ := own_cell (base := w.heap.size) (n := m) (by have := HO.out; unfold OwV at this; rwa [deepL_len] at this) (deepL_len m) 0 (by have := HK.out; omega) 2 (by decide)
        simp only [Nat.reduceMul, Nat.reduceAdd, Nat.zero_add] at hs hf tn hcv
        obtain ⟨wn, hwn⟩ : ∃ n, wr.setCell ⟨G, 2, none⟩ (.int .i64 (1 + Q)) = n := ⟨_, rfl⟩
        rw [hwn] at hs tn
        have HOn := Lib.hid (show OwV w.heap.size wn (.slice (some ⟨G, 0, none⟩) m cc) (ringL m) from by unfold OwV; rw [ringL_len, ringL, ← HQK.out]; exact hs)
        have Tn := Lib.hid (HT.out.trans tn (fun q hq e => by have := HG.out; omega))
        have gi : (0 : Int) < (m : Int) := by have := HK.out; omega
        clear hs tn
        go_wp2_with fail
        refine (rcheck_any wn _ (ringL m) HOn.out.row (by rw [ringL_len]; have := HK.out; omega)).mono ?_
        rw [HR.out]
        rintro r w6 ⟨rfl, t6⟩
        have T6 := Lib.hid (Tn.out.trans t6 (fun _ _ => id))
        clear t6
        obtain ⟨B, hB⟩ : ∃ B, w6.heap.size = B := ⟨_, rfl⟩
        obtain ⟨wz, hwz⟩ : ∃ wz, w6.alloc (.cells (fv 0 0).toArray 26) = wz := ⟨_, rfl⟩
        have hx4 : ∀ ev op, op.op = .alloc 26 → (execOp ev op).run Try.prog w6 = .ok (.value (.pointer (some ⟨B, 0, none⟩))) wz := fun ev op ho => by rw [← hwz, ← hB]; exact exec_zero26 ev op ho _
        have hb4 := box_alloc w6 26 (fv 0 0)
        rw [hwz] at hb4
        have hh4 := hb4.heap
        rw [hB] at hh4
        have HX4 := Lib.hid hx4
        have HB4 := Lib.hid hb4
        have HH4 := Lib.hid hh4
        have HE4 := Lib.hid hB
        clear hb4 hB hwz hx4 hh4
        go_wp2_with (with_reducible (show wpList _ _ _ (Oper.mk (some 8) (.alloc 26) _ _ _ _ :: _) _ _); refine still ?_)
        refine list_exec rfl _ _ (HX4.out _ _ rfl) ?_
        go_wp2_with (with_reducible (show wpList _ _ _ (Oper.mk none (.store 26 (.tmp 8) (.tmp 31)) _ _ _ _ :: _) _ _); refine still ?_)
        refine list_put wz B 26 (fv 0 0) (fv 5 1) HH4.out rfl (fv_one _ _) fv_info rfl (.tmp 8) (.tmp 31) rfl rfl rfl (fun w7 hw7 tw7 => ?_)
        have Pw7 := Lib.hid hw7
        have Uw7 := Lib.hid (HB4.out.turn.trans tw7 (fun q hq e => by have := HE4.out; omega))
        clear hw7 tw7
        have T7 := Lib.hid (T6.out.trans Uw7.out (fun _ _ => id))
        go_wp2_with fail
        refine (awake_any w7).mono ?_
        rintro r w8 ⟨rfl, t8⟩
        have T8 := Lib.hid (T7.out.trans t8 (fun _ _ => id))
        have H8 := Lib.hid (rangeAt_turn (range_of Pw7.out) t8 id)
        clear t8
        go_wp2_with (with_reducible (show wpList _ _ _ (Oper.mk (some 35) (.load 26 (.tmp 8)) _ _ _ _ :: _) _ _); refine still ?_)
        refine wpList_exec_want (by rfl) _ _ (exec_load_mid _ _ 26 (.tmp 8) rfl B 0 rfl (fv 5 1) _ _ H8.out Try.underlying26 rfl fv_info) ?_
        go_wp2_with (with_reducible (show wpList _ _ _ (Oper.mk (some 36) (.build 26 _) _ _ _ _ :: _) _ _); refine still ?_)
        refine wpList_exec_want (by rfl) _ _ (exec_fvB _ _ _ _ 5 1 rfl rfl rfl _) ?_
        go_wp2_with (with_reducible (show wpList _ _ _ (Oper.mk (some 37) (.binOp .eql 26 _ _ 26) _ _ _ _ :: _) _ _); refine still ?_)
        refine wpList_exec_want (by rfl) _ _ (exec_eql_fv1 _ _ rfl 5 1 _ rfl rfl) ?_
        go_wp2_with fail
        go_ret
        exact ⟨rfl, T8.out⟩

end Go.Proofs.Ytifhnidcodhoeaa
