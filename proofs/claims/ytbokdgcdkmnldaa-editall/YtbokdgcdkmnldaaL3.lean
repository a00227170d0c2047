/- Own contracts: EditAll. No statement is proved here. -/
import Derived.Test.YtbokdgcdkmnldaaLb
namespace Go.Proofs.Ytbokdgcdkmnldaa
set_option maxRecDepth 100000
open Go.RowKit
set_option linter.unusedVariables false
set_option linter.unusedSimpArgs false

set_option maxHeartbeats 8000000 in
theorem eall_law (w : World) (v u : Value) (l : List El) (xs : List Ed) (bad : Int) (hv : RowV w v l) (hu : EdV w u xs) (hl : l.length ≤ maxLen) (hxl : xs.length ≤ maxLen) (hk : KOk l) (hx : ∀ x ∈ xs, EdOk x) (hbd : 0 ≤ bad ∧ bad < 256) :
    Calls Try.prog 6 #[v, u, .int .u8 bad] w fun e w' => e = .returned (.bool true) ∧ Turn (fun _ => False) w w' := by
  obtain ⟨la, lc, rfl⟩ := hv.form
  obtain ⟨n, hn⟩ : ∃ n, l.length = n := ⟨_, rfl⟩
  obtain ⟨ua, uc, rfl⟩ := hu.form
  obtain ⟨m, hm⟩ : ∃ m, xs.length = m := ⟨_, rfl⟩
  simp only [hn] at hv hl ⊢
  simp only [hm] at hu hxl ⊢
  have HV := Lib.hid hv
  have HU := Lib.hid hu
  have HN := Lib.hid hn
  have HM := Lib.hid hm
  have HK := Lib.hid hk
  have HXO := Lib.hid hx
  clear hv hu hn hm hk hx
  unfold maxLen at hl hxl
  go_enter Try.func6, Try.ntmps6
  go_wp2_with fail
  refine (awake_any w).mono ?_
  rintro r w2 ⟨rfl, t2⟩
  have T2 := Lib.hid t2
  clear t2
  by_cases hbig : 15 < n ∨ 15 < m ∨ m = 0
  · have hcs : decide (15 < (n : Int)) = true ∨ (decide (15 < (n : Int)) = false ∧ decide (15 < (m : Int)) = true) ∨ (decide (15 < (n : Int)) = false ∧ decide (15 < (m : Int)) = false ∧ m = 0) := by
      by_cases h : 15 < n
      · exact .inl (decide_eq_true (by omega))
      · by_cases h2 : 15 < m
        · exact .inr (.inl ⟨decide_eq_false (by omega), decide_eq_true (by omega)⟩)
        · exact .inr (.inr ⟨decide_eq_false (by omega), decide_eq_false (by omega), by omega⟩)
    clear hbig
    rcases hcs with d1 | ⟨d1, d2⟩ | ⟨d1, d2, rfl⟩
    · go_wp2_with fail
      refine (awake_any w2).mono ?_
      rintro r w3 ⟨rfl, t3⟩
      go_wp2_with fail
      go_ret
      exact ⟨rfl, T2.out.trans t3 (fun _ _ => id)⟩
    · go_wp2_with fail
      refine (awake_any w2).mono ?_
      rintro r w3 ⟨rfl, t3⟩
      go_wp2_with fail
      go_ret
      exact ⟨rfl, T2.out.trans t3 (fun _ _ => id)⟩
    · go_wp2_with fail
      refine (awake_any w2).mono ?_
      rintro r w3 ⟨rfl, t3⟩
      go_wp2_with fail
      go_ret
      exact ⟨rfl, T2.out.trans t3 (fun _ _ => id)⟩
  · have d1 : decide (15 < (n : Int)) = false := decide_eq_false (by omega)
    have d2 : decide (15 < (m : Int)) = false := decide_eq_false (by omega)
    have hm0 : (m == 0) = false := by simpa using (show m ≠ 0 by omega)
    have hmi : ((m : Int) == 0) = false := by simpa using (show m ≠ 0 by omega)
    go_wp2_with fail
    refine (rising_any w2 _ l _ (HV.out.turn T2.out (fun _ _ => id)) (by rw [HN.out]; omega) HK.out).mono ?_
    rintro r w3 ⟨v3, c3, rfl, hv3, hr3, hk3, hl3, t3, hfar, hty⟩
    have T3 := Lib.hid (T2.out.trans t3 (fun _ _ => id))
    have HC := Lib.hid (show RowV w3 v3 c3 ∧ KOk c3 ∧ c3.length ≤ 15 from ⟨hv3, hk3, by rw [HN.out] at hl3; omega⟩)
    have HCH := Lib.hid (show ChV w w3 v3 c3 from ChV.new hv3 hty)
    have hm15 : 0 < m ∧ m ≤ 15 := by omega
    clear hv3 hr3 hk3 hl3 t3 hbig d1 d2 hfar hl hxl hty
    obtain ⟨K, hK, hKm⟩ : ∃ K : Nat, bad.tmod (m : Int) = (K : Int) ∧ K < m := by
      refine ⟨(bad % (m : Int)).toNat, ?_, ?_⟩
      · rw [Int.tmod_eq_emod_of_nonneg hbd.1]
        have := Int.emod_nonneg bad (show (m : Int) ≠ 0 by omega)
        omega
      · have := Int.emod_lt_of_pos bad (show (0 : Int) < (m : Int) by omega)
        have := Int.emod_nonneg bad (show (m : Int) ≠ 0 by omega)
        omega
    go_wp2_with fail
    go_loopw [9, 10] (fun yv iv wr => ∃ (k : Nat) (ys : List Ed), k ≤ m ∧ iv = .int .i64 (k : Int) ∧ OwE w.heap.size wr yv ys ∧ ys.length = k ∧ (∀ y ∈ ys, EdOk y) ∧ (K < k → (ys.getD K ed0).op = 0) ∧ ChV w wr v3 c3 ∧ Turn (fun _ => False) w wr) (fun _ iv _ => m - (intOf iv).toNat)
    case atStart => exact ⟨0, [], Nat.zero_le _, rfl, World.ownsRow_nil _ _ _ _, rfl, fun y hy => (by cases hy), fun h => (by omega), HCH.out, T3.out⟩
    case round =>
      obtain ⟨k, ys, hkm, rfl, hys, hyl, hyk, hyb, hc, htr⟩ := hrel
      have HYS := Lib.hid hys
      have HYL := Lib.hid hyl
      have HYK := Lib.hid hyk
      have HYB := Lib.hid hyb
      have HCC := Lib.hid hc
      have HT := Lib.hid htr
      clear hys hyl hyk hyb hc htr
      by_cases hlt : k < m
      · have gi : (0 : Int) ≤ (k : Int) ∧ (k : Int) < (m : Int) := by omega
        have dk : decide ((k : Int) < (m : Int)) = true := decide_eq_true (by omega)
        obtain ⟨g, o, rfl, hcc, hs'⟩ := (HU.out.turn HT.out (fun _ _ => id)).one HM.out k hlt
        have hxo := HXO.out (xs.getD k ed0) (getD_mem_ed (by rw [HM.out]; exact hlt))
        obtain ⟨x, hx⟩ : ∃ x, xs.getD k ed0 = x := ⟨_, rfl⟩
        rw [hx] at hs' hxo
        have HS := Lib.hid hs'
        have HXK := Lib.hid hxo
        clear hs' hxo hx hcc
        go_wp2_with (with_reducible (show wpList _ _ _ (Oper.mk (some 53) (.load 28 (.tmp 52)) _ _ _ _ :: _) _ _); refine still ?_)
        refine wpList_load_mid rfl 28 (.tmp 52) rfl g (o + k * 16) rfl x.vals _ HS.out Try.underlying28 rfl ed_info ?_
        go_wp2_with fail
        refine (close_any wr _ c3 x 3 HCC.out.1 (by have := HC.out.2.2; omega) HC.out.2.1 HXK.out).mono ?_
        rintro r w4 ⟨z, rfl, hz, t4⟩
        have F4 := Lib.hid t4
        have HZK := Lib.hid hz
        clear t4 hz
        obtain ⟨B, hB⟩ : ∃ Z, w4.heap.size = Z := ⟨_, rfl⟩
        obtain ⟨wz, hwz⟩ : ∃ wz, w4.alloc (.cells ed0.vals.toArray 28) = wz := ⟨_, rfl⟩
        have hx0 : ∀ ev op, op.op = .alloc 28 → (execOp ev op).run Try.prog w4 = .ok (.value (.pointer (some ⟨B, 0, none⟩))) wz := fun ev op ho => by rw [← hwz, ← hB]; exact exec_zero_ed ev op ho _
        have hb0 := box_alloc w4 28 ed0.vals
        rw [hwz] at hb0
        have hh0 := hb0.heap
        rw [hB] at hh0
        have HXX0 := Lib.hid hx0
        have HB0 := Lib.hid hb0
        have HH0 := Lib.hid hh0
        have HE0 := Lib.hid hB
        clear hb0 hB hwz hx0 hh0
        go_wp2_with (with_reducible (show wpList _ _ _ (Oper.mk (some 11) (.alloc 28) _ _ _ _ :: _) _ _); refine still ?_)
        refine list_exec rfl _ _ (HXX0.out _ _ rfl) ?_
        go_wp2_with (with_reducible (show wpList _ _ _ (Oper.mk none (.store 28 (.tmp 11) (.tmp 54)) _ _ _ _ :: _) _ _); refine still ?_)
        refine list_put wz B 28 ed0.vals z.vals HH0.out rfl z.vals_one ed_info rfl (.tmp 11) (.tmp 54) rfl rfl rfl (fun w5 h5 t5 => ?_)
        have HZ5 := Lib.hid h5
        have F5 := Lib.hid (F4.out.trans (HB0.out.turn.trans t5 (fun q hq e => by have := HE0.out; omega)) (fun _ _ => id))
        clear h5 t5
        have HBW := Lib.hid (show wr.heap.size ≤ B by have := HE0.out; have := F4.out.size; omega)
        by_cases hkK : k = K
        · have qk : ((k : Int) == (K : Int)) = true := by simp [hkK]
          have qk2 : (k == K) = true := by simpa using hkK
          obtain ⟨z', hz'⟩ : ∃ z' : Ed, { z with op := 0 } = z' := ⟨_, rfl⟩
          have HZV := Lib.hid (show z.vals.set 0 (.int .u8 0) = z'.vals by rw [← hz']; rfl)
          have HZ0 := Lib.hid (show z'.op = 0 ∧ EdOk z' by rw [← hz']; exact ⟨rfl, HZK.out⟩)
          clear hz'
          go_wp2_with (with_reducible (show wpList _ _ _ (Oper.mk none (.store 5 (.tmp 58) _) _ _ _ _ :: _) _ _); refine still ?_)
          refine list_set1 w5 B 28 5 z.vals 0 (.int .u8 0) HZ5.out (by rw [Ed.vlen]; decide) rfl rfl (by kernel_rfl) rfl (.tmp 58) _ rfl rfl rfl (fun w6 h6 t6 => ?_)
          rw [HZV.out] at h6
          have HZ6 := Lib.hid (range_of h6)
          have F6 := Lib.hid (F5.out.trans t6 (fun q hq e => by have := HBW.out; omega))
          have T6 := Lib.hid (HT.out.trans F6.out (fun _ _ => id))
          have HC6 := Lib.hid (HCC.out.turn F6.out)
          have HYS6 := Lib.hid (HYS.out.turn F6.out (fun _ _ => id))
          clear h6 t6
          obtain ⟨vy, wy, hry, hoy, ty, ay, cy, hvy⟩ := app_one_ed w6 w.heap.size 40 40 Try.underlying40 u9 ys z' HYS6.out (by have := T6.out.size; omega) (by have := HYL.out; omega)
          subst hvy
          have HRY := Lib.hid hry
          have HOY := Lib.hid (show OwE w.heap.size wy (.slice ay (ys.length + 1) cy) (ys ++ [z']) from by unfold OwE; simpa using hoy)
          have TY := Lib.hid (turn_on_ed HYS6.out (Nat.le_refl _) T6.out ty)
          have CY := Lib.hid (HC6.out.own HYS6.out ty)
          clear hry hoy ty
          go_wp2_with (with_reducible (show wpList _ _ _ (Oper.mk (some 60) (.load 28 (.tmp 11)) _ _ _ _ :: _) _ _); refine still ?_)
          refine wpList_load_mid rfl 28 (.tmp 11) rfl B 0 rfl z'.vals _ HZ6.out Try.underlying28 rfl ed_info ?_
          go_wp2_with (with_reducible (show wpList _ _ _ (Oper.mk (some 61) (.buildSlice 40 _ _) _ _ _ _ :: _) _ _); refine still ?_)
          refine list_exec rfl _ _ (exec_build_one_ed _ _ (.tmp 60) 40 Try.underlying40 rfl z' rfl _) ?_
          go_wp2_with (with_reducible (show wpList _ _ _ (Oper.mk (some 62) (_) _ _ _ _ :: _) _ _); refine still ?_)
          refine list_exec rfl _ _ (exec_append _ _ (.tmp 59) (.tmp 61) 40 rfl _ _ _ _ _ rfl rfl HRY.out) ?_
          go_wp2_with fail
          go_roundw
          case rel => exact ⟨k + 1, ys ++ [z'], by omega, by go_num, HOY.out, by rw [List.length_append]; have := HYL.out; simp; omega, fun y hy => (List.mem_append.1 hy).elim (HYK.out y) (fun h => by rw [List.mem_singleton.1 h]; exact HZ0.out.2), fun _ => by have e := HYL.out; rw [show K = ys.length by omega]; simp [List.getD]; exact HZ0.out.1, CY.out, TY.out⟩
          case measure => simp [intOf]; omega
        · have qk : ((k : Int) == (K : Int)) = false := by simp; omega
          have qk2 : (k == K) = false := by simpa using hkK
          obtain ⟨w6, hw6⟩ : ∃ w6, w6 = w5 := ⟨_, rfl⟩
          rw [← hw6]
          have HZ6 := Lib.hid (show w6.rangeAt B 0 z.vals by rw [hw6]; exact range_of HZ5.out)
          have F6 := Lib.hid (show Turn (fun _ => False) wr w6 by rw [hw6]; exact F5.out)
          clear hw6
          have T6 := Lib.hid (HT.out.trans F6.out (fun _ _ => id))
          have HC6 := Lib.hid (HCC.out.turn F6.out)
          have HYS6 := Lib.hid (HYS.out.turn F6.out (fun _ _ => id))
          obtain ⟨vy, wy, hry, hoy, ty, ay, cy, hvy⟩ := app_one_ed w6 w.heap.size 40 40 Try.underlying40 u9 ys z HYS6.out (by have := T6.out.size; omega) (by have := HYL.out; omega)
          subst hvy
          have HRY := Lib.hid hry
          have HOY := Lib.hid (show OwE w.heap.size wy (.slice ay (ys.length + 1) cy) (ys ++ [z]) from by unfold OwE; simpa using hoy)
          have TY := Lib.hid (turn_on_ed HYS6.out (Nat.le_refl _) T6.out ty)
          have CY := Lib.hid (HC6.out.own HYS6.out ty)
          clear hry hoy ty
          go_wp2_with (with_reducible (show wpList _ _ _ (Oper.mk (some 60) (.load 28 (.tmp 11)) _ _ _ _ :: _) _ _); refine still ?_)
          refine wpList_load_mid rfl 28 (.tmp 11) rfl B 0 rfl z.vals _ HZ6.out Try.underlying28 rfl ed_info ?_
          go_wp2_with (with_reducible (show wpList _ _ _ (Oper.mk (some 61) (.buildSlice 40 _ _) _ _ _ _ :: _) _ _); refine still ?_)
          refine list_exec rfl _ _ (exec_build_one_ed _ _ (.tmp 60) 40 Try.underlying40 rfl z rfl _) ?_
          go_wp2_with (with_reducible (show wpList _ _ _ (Oper.mk (some 62) (_) _ _ _ _ :: _) _ _); refine still ?_)
          refine list_exec rfl _ _ (exec_append _ _ (.tmp 59) (.tmp 61) 40 rfl _ _ _ _ _ rfl rfl HRY.out) ?_
          go_wp2_with fail
          go_roundw
          case rel => exact ⟨k + 1, ys ++ [z], by omega, by go_num, HOY.out, by rw [List.length_append]; have := HYL.out; simp; omega, fun y hy => (List.mem_append.1 hy).elim (HYK.out y) (fun h => by rw [List.mem_singleton.1 h]; exact HZK.out), fun h => by have e := HYL.out; have := HYB.out (by omega); rw [List.getD_eq_getElem?_getD, List.getElem?_append_left (by omega), ← List.getD_eq_getElem?_getD]; exact this, CY.out, TY.out⟩
          case measure => simp [intOf]; omega
      · have hke : k = m := by omega
        subst hke
        have HLC := Lib.hid (show c3.length + ys.length ≤ 30 by have := HYL.out; have := HC.out.2.2; omega)
        have HBD := Lib.hid (apply_bad (l := c3) (xs := ys) (k := K) (by rw [HYL.out]; exact hKm) (HYB.out hKm))
        clear hK
        go_wp2_with fail
        refine (apply_any wr _ _ c3 ys HCC.out.1 HYS.out.row (by have := HLC.out; omega) HC.out.2.1 HYK.out).mono ?_
        rintro r w7 ⟨v7, rfl, hv7, t7⟩
        have HV7 := Lib.hid hv7
        have T7 := Lib.hid (HT.out.trans t7 (fun _ _ => id))
        have HC7 := Lib.hid (HCC.out.turn t7)
        have HYS7 := Lib.hid (HYS.out.turn t7 (fun _ _ => id))
        clear hv7 t7
        go_wp2_with fail
        refine (rapply_any w7 _ _ c3 ys HC7.out.1 HYS7.out.row (by have := HLC.out; omega) HC.out.2.1 HYK.out).mono ?_
        rintro r w8 ⟨v8, rfl, hv8, t8⟩
        have HNI := Lib.hid (apply_fst HBD.out)
        obtain ⟨D, hD⟩ : ∃ D, applyE c3 ys = D := ⟨_, rfl⟩
        rw [hD] at hv8 HV7 HNI HBD ⊢
        have HV8 := Lib.hid hv8
        have HW8 := Lib.hid (HV7.out.turn t8 (fun _ _ => id))
        have T8 := Lib.hid (T7.out.trans t8 (fun _ _ => id))
        clear hD hv8 t8 HV7
        obtain ⟨D1, D2, D3⟩ := D
        simp only [] at HNI HV8 HW8 HBD ⊢
        have hd1 := HNI.out
        subst hd1
        obtain ⟨a7, c7, rfl⟩ := HW8.out.form
        have q0 : (D3 != 0) = true := by simpa using HBD.out
        have q1 : (D3 == 0) = false := by simpa using HBD.out
        go_wp2_with (go_at_call 13; refine (same_eq w8 _ _ [] HW8.out HV8.out (by decide)).mono ?_; rintro r w9 ⟨rfl, t9⟩; have T9 := Lib.hid t9; clear t9)
        go_ret
        exact ⟨rfl, T8.out.trans T9.out (fun _ _ => id)⟩

end Go.Proofs.Ytbokdgcdkmnldaa
