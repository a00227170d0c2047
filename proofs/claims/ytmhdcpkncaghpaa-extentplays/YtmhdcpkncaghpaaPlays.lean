/- Own: loops of ExtentPlays. No statement is proved here. -/
import Derived.Test.YtmhdcpkncaghpaaRoundF
import Derived.Test.YtmhdcpkncaghpaaRoundT
import Derived.Test.YtmhdcpkncaghpaaRoundR
namespace Go.Proofs.Ytmhdcpkncaghpaa
open Go.RowKit
set_option linter.unusedVariables false
set_option linter.unusedSimpArgs false

theorem made_bools (k : Nat) : madeCells (Value.bool false).cells (k * 1) = (bools (List.replicate k false)).toArray := by
  apply Array.ext'
  simp [madeCells, bools, Value.cells]
  apply List.ext_getElem?
  intro j
  by_cases h : j < k
  · simp [h, Nat.mod_one]
  · simp [h]
theorem run_make26 (w : World) (k : Nat) (hk : k ≤ 1000) : (Instr.makeSlice 26 (.int .i64 (k : Int)) (.int .i64 (k : Int))).run Try.prog w = .ok (.slice (some ⟨w.heap.size, 0, none⟩) k k) (w.alloc (.cells (bools (List.replicate k false)).toArray 4)) := by
  obtain ⟨i0, hi, hz0, hz1, hz2⟩ : ∃ i, Try.prog.info? 4 = some i ∧ i.zero = some (.bool false) ∧ i.size = 1 ∧ i.bytes = 1 := ⟨_, rfl, rfl, rfl, rfl⟩
  have h := run_make (P := Try.prog) w 26 4 i0 _ Try.underlying26 hi hz0 .i64 .i64 (k : Int) (k : Int) (by omega) (by omega) (by rw [hz2]; omega) (by omega)
  rw [h, hz1, Int.toNat_natCast, made_bools]

set_option maxHeartbeats 4000000 in
set_option maxRecDepth 1000000 in
theorem plays_law (w : World) (n' : Int) (v : Value) (n : Nat) (hn' : 0 ≤ n' ∧ n' < 256) (hv : ActsIn w v n) : Calls Try.prog 3 #[.int .u8 n', v] w (None w (.bool true)) := by
  obtain ⟨nn, rfl⟩ := Int.eq_ofNat_of_zero_le hn'.1
  have HV := Lib.hid hv
  obtain ⟨av, cp, rfl, hm, hacts⟩ := hv
  clear hacts
  have hl63 : n ≤ 9223372036854775807 := by simp only [maxLen] at hm; omega
  by_cases hbig : 50 < n
  · have hbI : (50 : Int) < (n : Int) := by omega
    go_enter Try.func3, Try.ntmps3
    go_wp2_with fail
    refine (awake_any w).mono ?_
    rintro e w1 ⟨rfl, T1⟩
    go_wp2_with fail
    refine (awake_any w1).mono ?_
    rintro e w2 ⟨rfl, T2⟩
    go_wp2_with fail
    go_ret
    exact ⟨rfl, T1.trans T2 (fun _ _ => id)⟩
  · have hbI : ¬ ((50 : Int) < (n : Int)) := by omega
    obtain ⟨k, hk⟩ : ∃ k, nn % 30 = k := ⟨_, rfl⟩
    have hk30 : k ≤ 1000 := by omega
    have r1 : (nn : Int) % 30 = (k : Int) := by omega
    have r2 : Int.tmod (nn : Int) 30 = (k : Int) := by rw [Int.tmod_eq_emod_of_nonneg (by omega)]; exact r1
    have HK := Lib.hid hk
    clear hk
    go_enter Try.func3, Try.ntmps3
    go_wp2_with fail
    refine (awake_any w).mono ?_
    rintro e w2 ⟨rfl, T1⟩
    go_wp2_with fail
    refine (new_h w2 (k : Int) (by omega)).mono ?_
    rintro e w3 ⟨D, F, rfl, h3, hF, T3⟩
    rw [Int.toNat_natCast] at h3
    have hmk := run_make26 w3 k hk30
    obtain ⟨UB, hUB⟩ : ∃ UB, w3.heap.size = UB := ⟨_, rfl⟩
    obtain ⟨w4, hw4⟩ : ∃ w4, w3.alloc (.cells (bools (List.replicate k false)).toArray 4) = w4 := ⟨_, rfl⟩
    have hst : PSt w2 w4 D k UB (List.replicate k false) (fun p => (List.replicate k false).getD p false) F := by
      have T4 : Turn (fun _ => False) w3 w4 := by rw [← hw4]; exact (Turn.refl _ w3).alloc _
      refine ⟨(h3.none T4).ext (fun p => ?_), hF, T3.trans T4 (fun _ _ => id), ?_, by simp, fun h => ?_, ?_⟩
      · simp only [List.getD_eq_getElem?_getD, List.getElem?_replicate]; split <;> rfl
      · rw [← hw4, ← hUB]; exact heap_alloc_new w3 _
      · have := h3.lt UB h; omega
      · have := T3.size; omega
    have HST0 := Lib.hid hst
    have HV2 := Lib.hid (HV.out.turn T1)
    rw [hw4, hUB] at hmk
    clear hst h3 hF hw4 hUB HV
    go_wp2_with fail
    go_loopw [8] (fun iv wr => ∃ (i : Nat) (us : List Bool) (F : Nat → Prop), i ≤ n ∧ iv = .int .i64 (i : Int) ∧ PSt w2 wr D k UB us (fun p => us.getD p false) F) (fun iv _ => n - (intOf iv).toNat)
    case atStart => exact ⟨0, _, F, Nat.zero_le _, rfl, HST0.out⟩
    case round =>
      obtain ⟨i, us, F, hi, rfl, hst⟩ := hrel
      have HST := Lib.hid hst
      clear hst
      by_cases hlt : i < n
      · obtain ⟨a', c', he, -, hacts⟩ := HV2.out.turn HST.out.turn
        obtain ⟨g, o, K, At, M, ha, hat⟩ := hacts i hlt
        subst ha
        cases he
        by_cases q3 : K.toNat % 4 = 3
        · refine round_find w2 g o n cp i D k UB K At M us F _ _ _ _ _ _ _ _ _ _ _ _ _ _ _ _ _ _ _ _ _ _ _ _ _ _ _ _ _ _ _ _ _ _ _ _ _ _ _ _ _ _ _ _ _ _ _ _ _ _ _ _ _ _ _ _ _ _ _ _ _ _ _ _ _ _ _ _ _ _ _ _ _ _ _ _ _ _ _ _ _ _ _ _ _ _ _ _ _ _ _ _ _ _ _ _ _ _ _ _ _ _ _ _ _ _ _ _ _ _ _ _ _ _ _ _ _ _ _ _ _ _ _ _ _ _ _ _ _ _ _ _ _ _ _ _ _ _ _ _ _ _ _ _ _ _ _ _ _ _ _ _ _ _ _ _ _ _ _ _ _ _ _ _ _ _ _ _ _ _ _ _ _ _ _ _ _ _ _ _ _ _ _ _ _ _ _ _ _ _ _ _ _ _ _ _ _ _ _ _ _ _ _ _ _ _ _ _ _ _ _ _ _ _ _ _ _ _ _ _ _ _ _ _ _ _ _ _ _ _ _ _ (fun e d v a w h => by cases d <;> exact h) hk30 (by omega) hlt hat q3 HST.out ?_
          intro _ _ _ _ _ _ _ _ _ _ _ _ _ _ _ _ _ _ _ _ _ _ _ _ _ _ _ _ _ _ _ _ _ _ _ _ _ _ _ _ _ _ _ _ _ _ _ _ _ _ _ _ _ _ _ _ _ _ _ _ _ _ _ _ _ _ _ _ _ _ _ _ _ _ _ _ _ _ _ _ _ _ _ _ _ _ _ _ _ _ _ _ _ _ _ _ _ _ _ _ _ _ _ _ _ _ _ _ _ _ _ _ _ _ _ _ _ _ _ _ _ _ _ _ _ _ _ _ _ _ _ _ _ _ _ _ _ _ _ _ _ _ _ _ _ _ _ _ _ _ _ _ _ _ _ _ _ _ _ _ _ _ _ _ _ _ _ _ _ _ _ _ _ _ _ _ _ _ _ _ _ _ _ _ _ _ _ _ _ _ _ _ _ _ _ _ _ _ _ _ _ _ _ _ _ _ _ _ _ _ _ _ us' F' w' hst'
          have HST' := Lib.hid hst'
          clear hst'
          go_wp2_with fail
          go_roundw
          case measure => simp [intOf]; omega
          case rel => exact ⟨i + 1, us', F', by omega, by go_num, HST'.out⟩
        · by_cases q2 : K.toNat % 4 < 2
          · refine round_take w2 g o n cp i D k UB K At M us F _ _ _ _ _ _ _ _ _ _ _ _ _ _ _ _ _ _ _ _ _ _ _ _ _ _ _ _ _ _ _ _ _ _ _ _ _ _ _ _ _ _ _ _ _ _ _ _ _ _ _ _ _ _ _ _ _ _ _ _ _ _ _ _ _ _ _ _ _ _ _ _ _ _ _ _ _ _ _ _ _ _ _ _ _ _ _ _ _ _ _ _ _ _ _ _ _ _ _ _ _ _ _ _ _ _ _ _ _ _ _ _ _ _ _ _ _ _ _ _ _ _ _ _ _ _ _ _ _ _ _ _ _ _ _ _ _ _ _ _ _ _ _ _ _ _ _ _ _ _ _ _ _ _ _ _ _ _ _ _ _ _ _ _ _ _ _ _ _ _ _ _ _ _ _ _ _ _ _ _ _ _ _ _ _ _ _ _ _ _ _ _ _ _ _ _ _ _ _ _ _ _ _ _ _ _ _ _ _ _ _ _ _ _ _ _ _ _ _ _ _ _ _ _ _ _ _ _ _ _ _ _ (fun e d v a w h => by cases d <;> exact h) hk30 (by omega) hlt hat q2 HST.out ?_
            intro _ _ _ _ _ _ _ _ _ _ _ _ _ _ _ _ _ _ _ _ _ _ _ _ _ _ _ _ _ _ _ _ _ _ _ _ _ _ _ _ _ _ _ _ _ _ _ _ _ _ _ _ _ _ _ _ _ _ _ _ _ _ _ _ _ _ _ _ _ _ _ _ _ _ _ _ _ _ _ _ _ _ _ _ _ _ _ _ _ _ _ _ _ _ _ _ _ _ _ _ _ _ _ _ _ _ _ _ _ _ _ _ _ _ _ _ _ _ _ _ _ _ _ _ _ _ _ _ _ _ _ _ _ _ _ _ _ _ _ _ _ _ _ _ _ _ _ _ _ _ _ _ _ _ _ _ _ _ _ _ _ _ _ _ _ _ _ _ _ _ _ _ _ _ _ _ _ _ _ _ _ _ _ _ _ _ _ _ _ _ _ _ _ _ _ _ _ _ _ _ _ _ _ _ _ _ _ _ _ _ _ _ us' F' w' hst'
            have HST' := Lib.hid hst'
            clear hst'
            go_wp2_with fail
            go_roundw
            case measure => simp [intOf]; omega
            case rel => exact ⟨i + 1, us', F', by omega, by go_num, HST'.out⟩
          · refine round_free w2 g o n cp i D k UB K At M us F _ _ _ _ _ _ _ _ _ _ _ _ _ _ _ _ _ _ _ _ _ _ _ _ _ _ _ _ _ _ _ _ _ _ _ _ _ _ _ _ _ _ _ _ _ _ _ _ _ _ _ _ _ _ _ _ _ _ _ _ _ _ _ _ _ _ _ _ _ _ _ _ _ _ _ _ _ _ _ _ _ _ _ _ _ _ _ _ _ _ _ _ _ _ _ _ _ _ _ _ _ _ _ _ _ _ _ _ _ _ _ _ _ _ _ _ _ _ _ _ _ _ _ _ _ _ _ _ _ _ _ _ _ _ _ _ _ _ _ _ _ _ _ _ _ _ _ _ _ _ _ _ _ _ _ _ _ _ _ _ _ _ _ _ _ _ _ _ _ _ _ _ _ _ _ _ _ _ _ _ _ _ _ _ _ _ _ _ _ _ _ _ _ _ _ _ _ _ _ _ _ _ _ _ _ _ _ _ _ _ _ _ _ _ _ _ _ _ _ _ _ _ _ _ _ _ _ _ _ _ _ _ (fun e d v a w h => by cases d <;> exact h) hk30 (by omega) hlt hat (by omega) HST.out ?_
            intro _ _ _ _ _ _ _ _ _ _ _ _ _ _ _ _ _ _ _ _ _ _ _ _ _ _ _ _ _ _ _ _ _ _ _ _ _ _ _ _ _ _ _ _ _ _ _ _ _ _ _ _ _ _ _ _ _ _ _ _ _ _ _ _ _ _ _ _ _ _ _ _ _ _ _ _ _ _ _ _ _ _ _ _ _ _ _ _ _ _ _ _ _ _ _ _ _ _ _ _ _ _ _ _ _ _ _ _ _ _ _ _ _ _ _ _ _ _ _ _ _ _ _ _ _ _ _ _ _ _ _ _ _ _ _ _ _ _ _ _ _ _ _ _ _ _ _ _ _ _ _ _ _ _ _ _ _ _ _ _ _ _ _ _ _ _ _ _ _ _ _ _ _ _ _ _ _ _ _ _ _ _ _ _ _ _ _ _ _ _ _ _ _ _ _ _ _ _ _ _ _ _ _ _ _ _ _ _ _ _ _ _ us' F' w' hst'
            have HST' := Lib.hid hst'
            clear hst'
            go_wp2_with fail
            go_roundw
            case measure => simp [intOf]; omega
            case rel => exact ⟨i + 1, us', F', by omega, by go_num, HST'.out⟩
      · obtain rfl : i = n := by omega
        have hI : ¬ ((i : Int) < (i : Int)) := by omega
        go_wp2_with fail
        go_ret
        exact ⟨rfl, T1.trans HST.out.turn (fun _ _ => id)⟩
end Go.Proofs.Ytmhdcpkncaghpaa
