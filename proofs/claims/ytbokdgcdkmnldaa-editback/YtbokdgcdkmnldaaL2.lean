/- Own contracts: EditBack. No statement is proved here. -/
import Derived.Test.YtbokdgcdkmnldaaLb
namespace Go.Proofs.Ytbokdgcdkmnldaa
set_option maxRecDepth 100000
open Go.RowKit
set_option linter.unusedVariables false
set_option linter.unusedSimpArgs false

set_option maxHeartbeats 8000000 in
theorem eback_law (w : World) (v u b : Value) (l : List El) (xs : List Ed) (hs : List Int) (raw : Bool) (hv : RowV w v l) (hu : EdV w u xs) (hb : Src w b hs) (hl : l.length ≤ maxLen) (hxl : xs.length ≤ maxLen) (hbl : hs.length ≤ maxLen) (hk : KOk l) (hx : ∀ x ∈ xs, EdOk x)
    (hlt : ∀ q, b.ownBlock = some q → 0 < hs.length → q < w.heap.size) : Calls Try.prog 4 #[v, u, b, .bool raw] w fun e w' => e = .returned (.bool true) ∧ Turn (fun _ => False) w w' := by
  obtain ⟨la, lc, rfl⟩ := hv.form
  obtain ⟨n, hn⟩ : ∃ n, l.length = n := ⟨_, rfl⟩
  obtain ⟨ua, uc, rfl⟩ := hu.form
  obtain ⟨m, hm⟩ : ∃ m, xs.length = m := ⟨_, rfl⟩
  simp only [hn] at hv hl ⊢
  simp only [hm] at hu hxl ⊢
  have HV := Lib.hid hv
  have HU := Lib.hid hu
  have HN := Lib.hid hn
  have HM := Lib.hid hm
  have HK := Lib.hid hk
  have HXO := Lib.hid hx
  clear hv hu hn hm hk hx
  obtain ⟨ba, bc, rfl⟩ := hb.form'
  obtain ⟨p, hp⟩ : ∃ p, hs.length = p := ⟨_, rfl⟩
  simp only [hp] at hb hbl hlt ⊢
  have HB := Lib.hid hb
  have HP := Lib.hid hp
  have HLT := Lib.hid hlt
  clear hb hp hlt
  unfold maxLen at hl hxl hbl
  go_enter Try.func4, Try.ntmps4
  go_wp2_with fail
  refine (awake_any w).mono ?_
  rintro r w2 ⟨rfl, t2⟩
  have T2 := Lib.hid t2
  clear t2
  by_cases hbig : 20 < n ∨ 20 < m
  · have hcs : decide (20 < (n : Int)) = true ∨ (decide (20 < (n : Int)) = false ∧ decide (20 < (m : Int)) = true) := by
      by_cases h : 20 < n
      · exact .inl (decide_eq_true (by omega))
      · exact .inr ⟨decide_eq_false (by omega), decide_eq_true (by omega)⟩
    clear hbig
    rcases hcs with d1 | ⟨d1, d2⟩
    · go_wp2_with fail
      refine (awake_any w2).mono ?_
      rintro r w3 ⟨rfl, t3⟩
      go_wp2_with fail
      go_ret
      exact ⟨rfl, T2.out.trans t3 (fun _ _ => id)⟩
    · go_wp2_with fail
      refine (awake_any w2).mono ?_
      rintro r w3 ⟨rfl, t3⟩
      go_wp2_with fail
      go_ret
      exact ⟨rfl, T2.out.trans t3 (fun _ _ => id)⟩
  · have d1 : decide (20 < (n : Int)) = false := decide_eq_false (by omega)
    have d2 : decide (20 < (m : Int)) = false := decide_eq_false (by omega)
    go_wp2_with fail
    refine (rising_any w2 _ l _ (HV.out.turn T2.out (fun _ _ => id)) (by rw [HN.out]; omega) HK.out).mono ?_
    rintro r w3 ⟨v3, c3, rfl, hv3, hr3, hk3, hl3, t3, hfar, hty⟩
    have T3 := Lib.hid (T2.out.trans t3 (fun _ _ => id))
    have HC := Lib.hid (show RowV w3 v3 c3 ∧ KOk c3 ∧ c3.length ≤ 20 from ⟨hv3, hk3, by rw [HN.out] at hl3; omega⟩)
    have HD := Lib.hid (show RowV w3 (.slice la n lc) l ∧ KOk l ∧ l.length ≤ 20 from ⟨HV.out.turn T3.out (fun _ _ => id), HK.out, by rw [HN.out]; omega⟩)
    have hm20 : m ≤ 20 := by omega
    have HTY3 := Lib.hid hty
    clear hv3 hr3 hk3 hl3 t3 hbig d1 d2 hfar hl hxl hty
    cases raw
    · have HCH := Lib.hid (show ChV w w3 v3 c3 from ChV.new HC.out.1 HTY3.out)
      go_wp2_with fail
      go_loopw [10, 11, 12] (fun av yv iv wr => ∃ (k : Nat) (ac : List El) (ys : List Ed), k ≤ m ∧ iv = .int .i64 (k : Int) ∧ ChV w wr av ac ∧ KOk ac ∧ ac.length ≤ 20 + k ∧ OwE w.heap.size wr yv ys ∧ ys.length ≤ k ∧ (∀ y ∈ ys, EdOk y) ∧ ChV w wr v3 c3 ∧ Turn (fun _ => False) w wr) (fun _ _ iv _ => m - (intOf iv).toNat)
      case atStart => exact ⟨0, c3, [], Nat.zero_le _, rfl, HCH.out, HC.out.2.1, by have := HC.out.2.2; omega, World.ownsRow_nil _ _ _ _, Nat.le_refl _, fun y hy => (by cases hy), HCH.out, T3.out⟩
      case round =>
        obtain ⟨k, ac, ys, hkm, rfl, ha, hka, hla, hys, hyl, hyk, hc, htr⟩ := hrel
        have HA := Lib.hid ha
        have HKA := Lib.hid hka
        have HLA := Lib.hid hla
        have HYS := Lib.hid hys
        have HYL := Lib.hid hyl
        have HYK := Lib.hid hyk
        have HQC := Lib.hid hc
        have HT := Lib.hid htr
        clear ha hka hla hys hyl hyk hc htr
        by_cases hlt : k < m
        · have gi : (0 : Int) ≤ (k : Int) ∧ (k : Int) < (m : Int) := by omega
          have dk : decide ((k : Int) < (m : Int)) = true := decide_eq_true (by omega)
          obtain ⟨g, o, rfl, hcc, hs'⟩ := (HU.out.turn HT.out (fun _ _ => id)).one HM.out k hlt
          have hxo := HXO.out (xs.getD k ed0) (getD_mem_ed (by rw [HM.out]; exact hlt))
          obtain ⟨x, hx⟩ : ∃ x, xs.getD k ed0 = x := ⟨_, rfl⟩
          rw [hx] at hs' hxo
          have HS := Lib.hid hs'
          have HXK := Lib.hid hxo
          clear hs' hxo hx hcc
          by_cases hkp : k < p
          · have dp : decide ((k : Int) < (p : Int)) = true := decide_eq_true (by omega)
            have gp : (0 : Int) ≤ (k : Int) ∧ (k : Int) < (p : Int) := by omega
            obtain ⟨g2, o2, hba, hcc2, hcell⟩ := HB.out.one' HP.out k hkp
            subst hba
            have hc2 : wr.cell? ⟨g2, o2 + k, none⟩ = some (.int .u8 (hs.getD k 0)) := (HT.out.cell (p := ⟨g2, o2 + k, none⟩) (World.block_lt_of_cell? w _ hcell) id).trans hcell
            obtain ⟨h, hh⟩ : ∃ h, hs.getD k 0 = h := ⟨_, rfl⟩
            rw [hh] at hc2
            clear hh hcell hcc2
            go_wp2_with (with_reducible (show wpList _ _ _ (Oper.mk (some 62) (.load 28 (.tmp 61)) _ _ _ _ :: _) _ _); refine still ?_)
            refine wpList_load_mid rfl 28 (.tmp 61) rfl g (o + k * 16) rfl x.vals _ HS.out Try.underlying28 rfl ed_info ?_
            go_wp2_with fail
            refine (close_any wr _ ac x h HA.out.1 (by have := HLA.out; omega) HKA.out HXK.out).mono ?_
            rintro r w4 ⟨z, rfl, hz, t4⟩
            have T4 := Lib.hid (HT.out.trans t4 (fun _ _ => id))
            have F4 := Lib.hid t4
            have HZK := Lib.hid hz
            clear t4 hz
            obtain ⟨B, hB⟩ : ∃ Z, w4.heap.size = Z := ⟨_, rfl⟩
            obtain ⟨wz, hwz⟩ : ∃ wz, w4.alloc (.cells ed0.vals.toArray 28) = wz := ⟨_, rfl⟩
            have hx0 : ∀ ev op, op.op = .alloc 28 → (execOp ev op).run Try.prog w4 = .ok (.value (.pointer (some ⟨B, 0, none⟩))) wz := fun ev op ho => by rw [← hwz, ← hB]; exact exec_zero_ed ev op ho _
            have hb0 := box_alloc w4 28 ed0.vals
            rw [hwz] at hb0
            have hh0 := hb0.heap
            rw [hB] at hh0
            have HXX0 := Lib.hid hx0
            have HB0 := Lib.hid hb0
            have HH0 := Lib.hid hh0
            have HE0 := Lib.hid hB
            clear hb0 hB hwz hx0 hh0
            go_wp2_with (with_reducible (show wpList _ _ _ (Oper.mk (some 14) (.alloc 28) _ _ _ _ :: _) _ _); refine still ?_)
            refine list_exec rfl _ _ (HXX0.out _ _ rfl) ?_
            go_wp2_with (with_reducible (show wpList _ _ _ (Oper.mk none (.store 28 (.tmp 14) (.tmp 64)) _ _ _ _ :: _) _ _); refine still ?_)
            refine list_put wz B 28 ed0.vals z.vals HH0.out rfl z.vals_one ed_info rfl (.tmp 14) (.tmp 64) rfl rfl rfl (fun w5 h5 t5 => ?_)
            have HZ5 := Lib.hid (range_of h5)
            have F5 := Lib.hid (F4.out.trans (HB0.out.turn.trans t5 (fun q hq e => by have := HE0.out; omega)) (fun _ _ => id))
            clear h5 t5
            go_wp2_with (with_reducible (show wpList _ _ _ (Oper.mk (some 67) (.load 28 (.tmp 14)) _ _ _ _ :: _) _ _); refine still ?_)
            refine wpList_load_mid rfl 28 (.tmp 14) rfl B 0 rfl z.vals _ HZ5.out Try.underlying28 rfl ed_info ?_
            go_wp2_with fail
            refine (rone_any w5 _ ac z (HA.out.turn F5.out).1 (by have := HLA.out; omega) HKA.out).mono ?_
            rintro r w6 ⟨v6, rfl, hv6, t6, ty6⟩
            have F6 := Lib.hid (F5.out.trans t6 (fun _ _ => id))
            have T6 := Lib.hid (HT.out.trans F6.out (fun _ _ => id))
            have HZ6 := Lib.hid (rangeAt_turn HZ5.out t6 id)
            have HA6 := Lib.hid (HA.out.turn F6.out)
            have HC6 := Lib.hid (HQC.out.turn F6.out)
            have HYS6 := Lib.hid (HYS.out.turn F6.out (fun _ _ => id))
            have HD6 := Lib.hid (ChV.new (w0 := w) hv6 ty6)
            have HKD := Lib.hid (oneE_ok HKA.out HZK.out (show oneE ac z = ((oneE ac z).1, (oneE ac z).2) from rfl))
            have HLD := Lib.hid (show (oneE ac z).1.length ≤ 20 + (k + 1) by have := oneE_len (l := ac) (x := z); have := HLA.out; omega)
            clear t6 ty6 hv6
            obtain ⟨d, hd⟩ : ∃ d, (oneE ac z).2 = d := ⟨_, rfl⟩
            rw [hd]
            clear hd
            by_cases h0 : d = 0
            · have q0 : (d == 0) = true := by simpa using h0
              clear h0
              obtain ⟨vy, wy, hry, hoy, ty, ay, cy, hvy⟩ := app_one_ed w6 w.heap.size 40 40 Try.underlying40 u11 ys z HYS6.out (by have := T6.out.size; omega) (by have := HYL.out; omega)
              subst hvy
              have HRY := Lib.hid hry
              have HOY := Lib.hid (show OwE w.heap.size wy (.slice ay (ys.length + 1) cy) (ys ++ [z]) from by unfold OwE; simpa using hoy)
              have TY := Lib.hid (turn_on_ed HYS6.out (Nat.le_refl _) T6.out ty)
              have CY := Lib.hid (HC6.out.own HYS6.out ty)
              have AY := Lib.hid (HD6.out.own HYS6.out ty)
              clear hry hoy ty
              go_wp2_with (with_reducible (show wpList _ _ _ (Oper.mk (some 78) (.load 28 (.tmp 14)) _ _ _ _ :: _) _ _); refine still ?_)
              refine wpList_load_mid rfl 28 (.tmp 14) rfl B 0 rfl z.vals _ HZ6.out Try.underlying28 rfl ed_info ?_
              go_wp2_with (with_reducible (show wpList _ _ _ (Oper.mk (some 79) (.buildSlice 40 _ _) _ _ _ _ :: _) _ _); refine still ?_)
              refine list_exec rfl _ _ (exec_build_one_ed _ _ (.tmp 78) 40 Try.underlying40 rfl z rfl _) ?_
              go_wp2_with (with_reducible (show wpList _ _ _ (Oper.mk (some 80) (_) _ _ _ _ :: _) _ _); refine still ?_)
              refine list_exec rfl _ _ (exec_append _ _ (.tmp 77) (.tmp 79) 40 rfl _ _ _ _ _ rfl rfl HRY.out) ?_
              go_wp2_with fail
              go_roundw
              case rel => exact ⟨k + 1, _, ys ++ [z], by omega, by go_num, AY.out, HKD.out, HLD.out, HOY.out, by rw [List.length_append]; have := HYL.out; simp; omega, fun y hy => (List.mem_append.1 hy).elim (HYK.out y) (fun h => by rw [List.mem_singleton.1 h]; exact HZK.out), CY.out, TY.out⟩
              case measure => simp [intOf]; omega
            · have q0 : (d == 0) = false := by simpa using h0
              clear h0
              cases qh : decide (1 < h.tmod 8)
              · obtain ⟨vy, wy, hry, hoy, ty, ay, cy, hvy⟩ := app_one_ed w6 w.heap.size 40 40 Try.underlying40 u11 ys z HYS6.out (by have := T6.out.size; omega) (by have := HYL.out; omega)
                subst hvy
                have HRY := Lib.hid hry
                have HOY := Lib.hid (show OwE w.heap.size wy (.slice ay (ys.length + 1) cy) (ys ++ [z]) from by unfold OwE; simpa using hoy)
                have TY := Lib.hid (turn_on_ed HYS6.out (Nat.le_refl _) T6.out ty)
                have CY := Lib.hid (HC6.out.own HYS6.out ty)
                have AY := Lib.hid (HA6.out.own HYS6.out ty)
                clear hry hoy ty
                go_wp2_with (with_reducible (show wpList _ _ _ (Oper.mk (some 78) (.load 28 (.tmp 14)) _ _ _ _ :: _) _ _); refine still ?_)
                refine wpList_load_mid rfl 28 (.tmp 14) rfl B 0 rfl z.vals _ HZ6.out Try.underlying28 rfl ed_info ?_
                go_wp2_with (with_reducible (show wpList _ _ _ (Oper.mk (some 79) (.buildSlice 40 _ _) _ _ _ _ :: _) _ _); refine still ?_)
                refine list_exec rfl _ _ (exec_build_one_ed _ _ (.tmp 78) 40 Try.underlying40 rfl z rfl _) ?_
                go_wp2_with (with_reducible (show wpList _ _ _ (Oper.mk (some 80) (_) _ _ _ _ :: _) _ _); refine still ?_)
                refine list_exec rfl _ _ (exec_append _ _ (.tmp 77) (.tmp 79) 40 rfl _ _ _ _ _ rfl rfl HRY.out) ?_
                go_wp2_with fail
                go_roundw
                case rel => exact ⟨k + 1, ac, ys ++ [z], by omega, by go_num, AY.out, HKA.out, by have := HLA.out; omega, HOY.out, by rw [List.length_append]; have := HYL.out; simp; omega, fun y hy => (List.mem_append.1 hy).elim (HYK.out y) (fun h => by rw [List.mem_singleton.1 h]; exact HZK.out), CY.out, TY.out⟩
                case measure => simp [intOf]; omega
              · go_wp2_with fail
                go_roundw
                case rel => exact ⟨k + 1, ac, ys, by omega, by go_num, HA6.out, HKA.out, by have := HLA.out; omega, HYS6.out, by have := HYL.out; omega, HYK.out, HC6.out, T6.out⟩
                case measure => simp [intOf]; omega
          · have dp : decide ((k : Int) < (p : Int)) = false := decide_eq_false (by omega)
            go_wp2_with (with_reducible (show wpList _ _ _ (Oper.mk (some 62) (.load 28 (.tmp 61)) _ _ _ _ :: _) _ _); refine still ?_)
            refine wpList_load_mid rfl 28 (.tmp 61) rfl g (o + k * 16) rfl x.vals _ HS.out Try.underlying28 rfl ed_info ?_
            go_wp2_with fail
            refine (close_any wr _ ac x 0 HA.out.1 (by have := HLA.out; omega) HKA.out HXK.out).mono ?_
            rintro r w4 ⟨z, rfl, hz, t4⟩
            have T4 := Lib.hid (HT.out.trans t4 (fun _ _ => id))
            have F4 := Lib.hid t4
            have HZK := Lib.hid hz
            clear t4 hz
            obtain ⟨B, hB⟩ : ∃ Z, w4.heap.size = Z := ⟨_, rfl⟩
            obtain ⟨wz, hwz⟩ : ∃ wz, w4.alloc (.cells ed0.vals.toArray 28) = wz := ⟨_, rfl⟩
            have hx0 : ∀ ev op, op.op = .alloc 28 → (execOp ev op).run Try.prog w4 = .ok (.value (.pointer (some ⟨B, 0, none⟩))) wz := fun ev op ho => by rw [← hwz, ← hB]; exact exec_zero_ed ev op ho _
            have hb0 := box_alloc w4 28 ed0.vals
            rw [hwz] at hb0
            have hh0 := hb0.heap
            rw [hB] at hh0
            have HXX0 := Lib.hid hx0
            have HB0 := Lib.hid hb0
            have HH0 := Lib.hid hh0
            have HE0 := Lib.hid hB
            clear hb0 hB hwz hx0 hh0
            go_wp2_with (with_reducible (show wpList _ _ _ (Oper.mk (some 14) (.alloc 28) _ _ _ _ :: _) _ _); refine still ?_)
            refine list_exec rfl _ _ (HXX0.out _ _ rfl) ?_
            go_wp2_with (with_reducible (show wpList _ _ _ (Oper.mk none (.store 28 (.tmp 14) (.tmp 64)) _ _ _ _ :: _) _ _); refine still ?_)
            refine list_put wz B 28 ed0.vals z.vals HH0.out rfl z.vals_one ed_info rfl (.tmp 14) (.tmp 64) rfl rfl rfl (fun w5 h5 t5 => ?_)
            have HZ5 := Lib.hid (range_of h5)
            have F5 := Lib.hid (F4.out.trans (HB0.out.turn.trans t5 (fun q hq e => by have := HE0.out; omega)) (fun _ _ => id))
            clear h5 t5
            go_wp2_with (with_reducible (show wpList _ _ _ (Oper.mk (some 67) (.load 28 (.tmp 14)) _ _ _ _ :: _) _ _); refine still ?_)
            refine wpList_load_mid rfl 28 (.tmp 14) rfl B 0 rfl z.vals _ HZ5.out Try.underlying28 rfl ed_info ?_
            go_wp2_with fail
            refine (rone_any w5 _ ac z (HA.out.turn F5.out).1 (by have := HLA.out; omega) HKA.out).mono ?_
            rintro r w6 ⟨v6, rfl, hv6, t6, ty6⟩
            have F6 := Lib.hid (F5.out.trans t6 (fun _ _ => id))
            have T6 := Lib.hid (HT.out.trans F6.out (fun _ _ => id))
            have HZ6 := Lib.hid (rangeAt_turn HZ5.out t6 id)
            have HA6 := Lib.hid (HA.out.turn F6.out)
            have HC6 := Lib.hid (HQC.out.turn F6.out)
            have HYS6 := Lib.hid (HYS.out.turn F6.out (fun _ _ => id))
            have HD6 := Lib.hid (ChV.new (w0 := w) hv6 ty6)
            have HKD := Lib.hid (oneE_ok HKA.out HZK.out (show oneE ac z = ((oneE ac z).1, (oneE ac z).2) from rfl))
            have HLD := Lib.hid (show (oneE ac z).1.length ≤ 20 + (k + 1) by have := oneE_len (l := ac) (x := z); have := HLA.out; omega)
            clear t6 ty6 hv6
            obtain ⟨d, hd⟩ : ∃ d, (oneE ac z).2 = d := ⟨_, rfl⟩
            rw [hd]
            clear hd
            by_cases h0 : d = 0
            · have q0 : (d == 0) = true := by simpa using h0
              clear h0
              obtain ⟨vy, wy, hry, hoy, ty, ay, cy, hvy⟩ := app_one_ed w6 w.heap.size 40 40 Try.underlying40 u11 ys z HYS6.out (by have := T6.out.size; omega) (by have := HYL.out; omega)
              subst hvy
              have HRY := Lib.hid hry
              have HOY := Lib.hid (show OwE w.heap.size wy (.slice ay (ys.length + 1) cy) (ys ++ [z]) from by unfold OwE; simpa using hoy)
              have TY := Lib.hid (turn_on_ed HYS6.out (Nat.le_refl _) T6.out ty)
              have CY := Lib.hid (HC6.out.own HYS6.out ty)
              have AY := Lib.hid (HD6.out.own HYS6.out ty)
              clear hry hoy ty
              go_wp2_with (with_reducible (show wpList _ _ _ (Oper.mk (some 78) (.load 28 (.tmp 14)) _ _ _ _ :: _) _ _); refine still ?_)
              refine wpList_load_mid rfl 28 (.tmp 14) rfl B 0 rfl z.vals _ HZ6.out Try.underlying28 rfl ed_info ?_
              go_wp2_with (with_reducible (show wpList _ _ _ (Oper.mk (some 79) (.buildSlice 40 _ _) _ _ _ _ :: _) _ _); refine still ?_)
              refine list_exec rfl _ _ (exec_build_one_ed _ _ (.tmp 78) 40 Try.underlying40 rfl z rfl _) ?_
              go_wp2_with (with_reducible (show wpList _ _ _ (Oper.mk (some 80) (_) _ _ _ _ :: _) _ _); refine still ?_)
              refine list_exec rfl _ _ (exec_append _ _ (.tmp 77) (.tmp 79) 40 rfl _ _ _ _ _ rfl rfl HRY.out) ?_
              go_wp2_with fail
              go_roundw
              case rel => exact ⟨k + 1, _, ys ++ [z], by omega, by go_num, AY.out, HKD.out, HLD.out, HOY.out, by rw [List.length_append]; have := HYL.out; simp; omega, fun y hy => (List.mem_append.1 hy).elim (HYK.out y) (fun h => by rw [List.mem_singleton.1 h]; exact HZK.out), CY.out, TY.out⟩
              case measure => simp [intOf]; omega
            · have q0 : (d == 0) = false := by simpa using h0
              clear h0
              obtain ⟨vy, wy, hry, hoy, ty, ay, cy, hvy⟩ := app_one_ed w6 w.heap.size 40 40 Try.underlying40 u11 ys z HYS6.out (by have := T6.out.size; omega) (by have := HYL.out; omega)
              subst hvy
              have HRY := Lib.hid hry
              have HOY := Lib.hid (show OwE w.heap.size wy (.slice ay (ys.length + 1) cy) (ys ++ [z]) from by unfold OwE; simpa using hoy)
              have TY := Lib.hid (turn_on_ed HYS6.out (Nat.le_refl _) T6.out ty)
              have CY := Lib.hid (HC6.out.own HYS6.out ty)
              have AY := Lib.hid (HA6.out.own HYS6.out ty)
              clear hry hoy ty
              go_wp2_with (with_reducible (show wpList _ _ _ (Oper.mk (some 78) (.load 28 (.tmp 14)) _ _ _ _ :: _) _ _); refine still ?_)
              refine wpList_load_mid rfl 28 (.tmp 14) rfl B 0 rfl z.vals _ HZ6.out Try.underlying28 rfl ed_info ?_
              go_wp2_with (with_reducible (show wpList _ _ _ (Oper.mk (some 79) (.buildSlice 40 _ _) _ _ _ _ :: _) _ _); refine still ?_)
              refine list_exec rfl _ _ (exec_build_one_ed _ _ (.tmp 78) 40 Try.underlying40 rfl z rfl _) ?_
              go_wp2_with (with_reducible (show wpList _ _ _ (Oper.mk (some 80) (_) _ _ _ _ :: _) _ _); refine still ?_)
              refine list_exec rfl _ _ (exec_append _ _ (.tmp 77) (.tmp 79) 40 rfl _ _ _ _ _ rfl rfl HRY.out) ?_
              go_wp2_with fail
              go_roundw
              case rel => exact ⟨k + 1, ac, ys ++ [z], by omega, by go_num, AY.out, HKA.out, by have := HLA.out; omega, HOY.out, by rw [List.length_append]; have := HYL.out; simp; omega, fun y hy => (List.mem_append.1 hy).elim (HYK.out y) (fun h => by rw [List.mem_singleton.1 h]; exact HZK.out), CY.out, TY.out⟩
              case measure => simp [intOf]; omega
        · have hke : k = m := by omega
          subst hke
          have hlc := HC.out.2.2
          have HEB := Lib.hid (show c3.length + ys.length ≤ 900 by have := HYL.out; omega)
          have HLC := Lib.hid (show c3.length ≤ 20 ∧ ys.length ≤ 20 by have := HYL.out; omega)
          clear hlc
          go_wp2_with fail
          refine (apply_any wr _ _ c3 ys HQC.out.1 HYS.out.row HEB.out HC.out.2.1 HYK.out).mono ?_
          rintro r w7 ⟨v7, rfl, hv7, t7⟩
          have HV7 := Lib.hid hv7
          have T7 := Lib.hid (HT.out.trans t7 (fun _ _ => id))
          have HC7 := Lib.hid (HQC.out.turn t7)
          have HYS7 := Lib.hid (HYS.out.turn t7 (fun _ _ => id))
          clear hv7 t7
          go_wp2_with fail
          refine (rapply_any w7 _ _ c3 ys HC7.out.1 HYS7.out.row HEB.out HC.out.2.1 HYK.out).mono ?_
          rintro r w8 ⟨v8, rfl, hv8, t8⟩
          have HDL := Lib.hid (show (applyE c3 ys).1.length ≤ 40 by have := applyE_len (xs := ys) (l := c3); have := HLC.out; omega)
          have HDK := Lib.hid (applyE_ok HC.out.2.1 HYK.out)
          obtain ⟨D, hD⟩ : ∃ D, applyE c3 ys = D := ⟨_, rfl⟩
          rw [hD] at hv8 HV7 HDL HDK ⊢
          have HDE := Lib.hid hD
          have HV8 := Lib.hid hv8
          have HW8 := Lib.hid (HV7.out.turn t8 (fun _ _ => id))
          have T8 := Lib.hid (T7.out.trans t8 (fun _ _ => id))
          have HC8 := Lib.hid (HC7.out.turn t8)
          have HYS8 := Lib.hid (HYS7.out.turn t8 (fun _ _ => id))
          clear hD hv8 t8 HV7
          obtain ⟨D1, D2, D3⟩ := D
          simp only [] at HDL HDK HV8 HW8 ⊢
          go_wp2_with (go_at_call 13; refine (same_eq w8 _ _ D1 HW8.out HV8.out (by have := HDL.out; omega)).mono ?_; rintro r w9 ⟨rfl, t9⟩; have T9 := Lib.hid t9; clear t9; refine still ?_)
          unfold Still
          by_cases h0 : D3 = 0
          · subst h0
            have HWB := Lib.hid (way_back HC.out.2.1 HYK.out HDE.out)
            go_wp2_with fail
            refine (invert_any w9 _ ys ((HYS8.out.turn T9.out (fun _ _ => id)).row) (by have := HLC.out; omega)).mono ?_
            rintro r w10 ⟨vi, rfl, hvi, t10⟩
            have T10 := Lib.hid (T9.out.trans t10 (fun _ _ => id))
            have HVI := Lib.hid hvi
            clear t10 hvi
            go_wp2_with fail
            refine (apply_any w10 _ _ D1 (invE ys) (HW8.out.turn T10.out (fun _ _ => id)) HVI.out.row (by rw [inv_len]; have := HDL.out; have := HLC.out; omega) HDK.out (inv_ok HYK.out)).mono ?_
            rintro r w11 ⟨v11, rfl, hv11, t11⟩
            rw [HWB.out.1] at hv11 ⊢
            have HV11 := Lib.hid hv11
            have T11 := Lib.hid (T10.out.trans t11 (fun _ _ => id))
            have HC11 := Lib.hid ((HC8.out.turn T11.out))
            clear hv11 t11
            go_wp2_with (go_at_call 13; refine (same_eq w11 _ _ c3 HV11.out HC11.out.1 (by have := HLC.out; omega)).mono ?_; rintro r w12 ⟨rfl, t12⟩; have T12 := Lib.hid t12; clear t12)
            go_ret
            exact ⟨rfl, (T8.out.trans T11.out (fun _ _ => id)).trans T12.out (fun _ _ => id)⟩
          · have q0 : (D3 != 0) = true := by simpa using h0
            have hn := apply_fst (l := c3) (xs := ys) (by rw [HDE.out]; exact h0)
            rw [HDE.out] at hn
            simp only [] at hn
            have hw := HW8.out
            rw [hn] at hw
            obtain ⟨a7, c7, rfl⟩ := hw.form
            clear hw hn h0
            go_wp2_with fail
            go_ret
            exact ⟨rfl, T8.out.trans T9.out (fun _ _ => id)⟩
    · have HCH := Lib.hid (show ChV w w3 (.slice la n lc) l from ChV.arg HV.out T3.out)
      go_wp2_with fail
      go_loopw [10, 11, 12] (fun av yv iv wr => ∃ (k : Nat) (ac : List El) (ys : List Ed), k ≤ m ∧ iv = .int .i64 (k : Int) ∧ ChV w wr av ac ∧ KOk ac ∧ ac.length ≤ 20 + k ∧ OwE w.heap.size wr yv ys ∧ ys.length ≤ k ∧ (∀ y ∈ ys, EdOk y) ∧ ChV w wr (.slice la n lc) l ∧ Turn (fun _ => False) w wr) (fun _ _ iv _ => m - (intOf iv).toNat)
      case atStart => exact ⟨0, l, [], Nat.zero_le _, rfl, HCH.out, HD.out.2.1, by have := HD.out.2.2; omega, World.ownsRow_nil _ _ _ _, Nat.le_refl _, fun y hy => (by cases hy), HCH.out, T3.out⟩
      case round =>
        obtain ⟨k, ac, ys, hkm, rfl, ha, hka, hla, hys, hyl, hyk, hc, htr⟩ := hrel
        have HA := Lib.hid ha
        have HKA := Lib.hid hka
        have HLA := Lib.hid hla
        have HYS := Lib.hid hys
        have HYL := Lib.hid hyl
        have HYK := Lib.hid hyk
        have HQC := Lib.hid hc
        have HT := Lib.hid htr
        clear ha hka hla hys hyl hyk hc htr
        by_cases hlt : k < m
        · have gi : (0 : Int) ≤ (k : Int) ∧ (k : Int) < (m : Int) := by omega
          have dk : decide ((k : Int) < (m : Int)) = true := decide_eq_true (by omega)
          obtain ⟨g, o, rfl, hcc, hs'⟩ := (HU.out.turn HT.out (fun _ _ => id)).one HM.out k hlt
          have hxo := HXO.out (xs.getD k ed0) (getD_mem_ed (by rw [HM.out]; exact hlt))
          obtain ⟨x, hx⟩ : ∃ x, xs.getD k ed0 = x := ⟨_, rfl⟩
          rw [hx] at hs' hxo
          have HS := Lib.hid hs'
          have HXK := Lib.hid hxo
          clear hs' hxo hx hcc
          by_cases hkp : k < p
          · have dp : decide ((k : Int) < (p : Int)) = true := decide_eq_true (by omega)
            have gp : (0 : Int) ≤ (k : Int) ∧ (k : Int) < (p : Int) := by omega
            obtain ⟨g2, o2, hba, hcc2, hcell⟩ := HB.out.one' HP.out k hkp
            subst hba
            have hc2 : wr.cell? ⟨g2, o2 + k, none⟩ = some (.int .u8 (hs.getD k 0)) := (HT.out.cell (p := ⟨g2, o2 + k, none⟩) (World.block_lt_of_cell? w _ hcell) id).trans hcell
            obtain ⟨h, hh⟩ : ∃ h, hs.getD k 0 = h := ⟨_, rfl⟩
            rw [hh] at hc2
            clear hh hcell hcc2
            go_wp2_with (with_reducible (show wpList _ _ _ (Oper.mk (some 62) (.load 28 (.tmp 61)) _ _ _ _ :: _) _ _); refine still ?_)
            refine wpList_load_mid rfl 28 (.tmp 61) rfl g (o + k * 16) rfl x.vals _ HS.out Try.underlying28 rfl ed_info ?_
            go_wp2_with fail
            refine (close_any wr _ ac x h HA.out.1 (by have := HLA.out; omega) HKA.out HXK.out).mono ?_
            rintro r w4 ⟨z, rfl, hz, t4⟩
            have T4 := Lib.hid (HT.out.trans t4 (fun _ _ => id))
            have F4 := Lib.hid t4
            have HZK := Lib.hid hz
            clear t4 hz
            obtain ⟨B, hB⟩ : ∃ Z, w4.heap.size = Z := ⟨_, rfl⟩
            obtain ⟨wz, hwz⟩ : ∃ wz, w4.alloc (.cells ed0.vals.toArray 28) = wz := ⟨_, rfl⟩
            have hx0 : ∀ ev op, op.op = .alloc 28 → (execOp ev op).run Try.prog w4 = .ok (.value (.pointer (some ⟨B, 0, none⟩))) wz := fun ev op ho => by rw [← hwz, ← hB]; exact exec_zero_ed ev op ho _
            have hb0 := box_alloc w4 28 ed0.vals
            rw [hwz] at hb0
            have hh0 := hb0.heap
            rw [hB] at hh0
            have HXX0 := Lib.hid hx0
            have HB0 := Lib.hid hb0
            have HH0 := Lib.hid hh0
            have HE0 := Lib.hid hB
            clear hb0 hB hwz hx0 hh0
            go_wp2_with (with_reducible (show wpList _ _ _ (Oper.mk (some 14) (.alloc 28) _ _ _ _ :: _) _ _); refine still ?_)
            refine list_exec rfl _ _ (HXX0.out _ _ rfl) ?_
            go_wp2_with (with_reducible (show wpList _ _ _ (Oper.mk none (.store 28 (.tmp 14) (.tmp 64)) _ _ _ _ :: _) _ _); refine still ?_)
            refine list_put wz B 28 ed0.vals z.vals HH0.out rfl z.vals_one ed_info rfl (.tmp 14) (.tmp 64) rfl rfl rfl (fun w5 h5 t5 => ?_)
            have HZ5 := Lib.hid (range_of h5)
            have F5 := Lib.hid (F4.out.trans (HB0.out.turn.trans t5 (fun q hq e => by have := HE0.out; omega)) (fun _ _ => id))
            clear h5 t5
            go_wp2_with (with_reducible (show wpList _ _ _ (Oper.mk (some 67) (.load 28 (.tmp 14)) _ _ _ _ :: _) _ _); refine still ?_)
            refine wpList_load_mid rfl 28 (.tmp 14) rfl B 0 rfl z.vals _ HZ5.out Try.underlying28 rfl ed_info ?_
            go_wp2_with fail
            refine (rone_any w5 _ ac z (HA.out.turn F5.out).1 (by have := HLA.out; omega) HKA.out).mono ?_
            rintro r w6 ⟨v6, rfl, hv6, t6, ty6⟩
            have F6 := Lib.hid (F5.out.trans t6 (fun _ _ => id))
            have T6 := Lib.hid (HT.out.trans F6.out (fun _ _ => id))
            have HZ6 := Lib.hid (rangeAt_turn HZ5.out t6 id)
            have HA6 := Lib.hid (HA.out.turn F6.out)
            have HC6 := Lib.hid (HQC.out.turn F6.out)
            have HYS6 := Lib.hid (HYS.out.turn F6.out (fun _ _ => id))
            have HD6 := Lib.hid (ChV.new (w0 := w) hv6 ty6)
            have HKD := Lib.hid (oneE_ok HKA.out HZK.out (show oneE ac z = ((oneE ac z).1, (oneE ac z).2) from rfl))
            have HLD := Lib.hid (show (oneE ac z).1.length ≤ 20 + (k + 1) by have := oneE_len (l := ac) (x := z); have := HLA.out; omega)
            clear t6 ty6 hv6
            obtain ⟨d, hd⟩ : ∃ d, (oneE ac z).2 = d := ⟨_, rfl⟩
            rw [hd]
            clear hd
            by_cases h0 : d = 0
            · have q0 : (d == 0) = true := by simpa using h0
              clear h0
              obtain ⟨vy, wy, hry, hoy, ty, ay, cy, hvy⟩ := app_one_ed w6 w.heap.size 40 40 Try.underlying40 u11 ys z HYS6.out (by have := T6.out.size; omega) (by have := HYL.out; omega)
              subst hvy
              have HRY := Lib.hid hry
              have HOY := Lib.hid (show OwE w.heap.size wy (.slice ay (ys.length + 1) cy) (ys ++ [z]) from by unfold OwE; simpa using hoy)
              have TY := Lib.hid (turn_on_ed HYS6.out (Nat.le_refl _) T6.out ty)
              have CY := Lib.hid (HC6.out.own HYS6.out ty)
              have AY := Lib.hid (HD6.out.own HYS6.out ty)
              clear hry hoy ty
              go_wp2_with (with_reducible (show wpList _ _ _ (Oper.mk (some 78) (.load 28 (.tmp 14)) _ _ _ _ :: _) _ _); refine still ?_)
              refine wpList_load_mid rfl 28 (.tmp 14) rfl B 0 rfl z.vals _ HZ6.out Try.underlying28 rfl ed_info ?_
              go_wp2_with (with_reducible (show wpList _ _ _ (Oper.mk (some 79) (.buildSlice 40 _ _) _ _ _ _ :: _) _ _); refine still ?_)
              refine list_exec rfl _ _ (exec_build_one_ed _ _ (.tmp 78) 40 Try.underlying40 rfl z rfl _) ?_
              go_wp2_with (with_reducible (show wpList _ _ _ (Oper.mk (some 80) (_) _ _ _ _ :: _) _ _); refine still ?_)
              refine list_exec rfl _ _ (exec_append _ _ (.tmp 77) (.tmp 79) 40 rfl _ _ _ _ _ rfl rfl HRY.out) ?_
              go_wp2_with fail
              go_roundw
              case rel => exact ⟨k + 1, _, ys ++ [z], by omega, by go_num, AY.out, HKD.out, HLD.out, HOY.out, by rw [List.length_append]; have := HYL.out; simp; omega, fun y hy => (List.mem_append.1 hy).elim (HYK.out y) (fun h => by rw [List.mem_singleton.1 h]; exact HZK.out), CY.out, TY.out⟩
              case measure => simp [intOf]; omega
            · have q0 : (d == 0) = false := by simpa using h0
              clear h0
              cases qh : decide (1 < h.tmod 8)
              · obtain ⟨vy, wy, hry, hoy, ty, ay, cy, hvy⟩ := app_one_ed w6 w.heap.size 40 40 Try.underlying40 u11 ys z HYS6.out (by have := T6.out.size; omega) (by have := HYL.out; omega)
                subst hvy
                have HRY := Lib.hid hry
                have HOY := Lib.hid (show OwE w.heap.size wy (.slice ay (ys.length + 1) cy) (ys ++ [z]) from by unfold OwE; simpa using hoy)
                have TY := Lib.hid (turn_on_ed HYS6.out (Nat.le_refl _) T6.out ty)
                have CY := Lib.hid (HC6.out.own HYS6.out ty)
                have AY := Lib.hid (HA6.out.own HYS6.out ty)
                clear hry hoy ty
                go_wp2_with (with_reducible (show wpList _ _ _ (Oper.mk (some 78) (.load 28 (.tmp 14)) _ _ _ _ :: _) _ _); refine still ?_)
                refine wpList_load_mid rfl 28 (.tmp 14) rfl B 0 rfl z.vals _ HZ6.out Try.underlying28 rfl ed_info ?_
                go_wp2_with (with_reducible (show wpList _ _ _ (Oper.mk (some 79) (.buildSlice 40 _ _) _ _ _ _ :: _) _ _); refine still ?_)
                refine list_exec rfl _ _ (exec_build_one_ed _ _ (.tmp 78) 40 Try.underlying40 rfl z rfl _) ?_
                go_wp2_with (with_reducible (show wpList _ _ _ (Oper.mk (some 80) (_) _ _ _ _ :: _) _ _); refine still ?_)
                refine list_exec rfl _ _ (exec_append _ _ (.tmp 77) (.tmp 79) 40 rfl _ _ _ _ _ rfl rfl HRY.out) ?_
                go_wp2_with fail
                go_roundw
                case rel => exact ⟨k + 1, ac, ys ++ [z], by omega, by go_num, AY.out, HKA.out, by have := HLA.out; omega, HOY.out, by rw [List.length_append]; have := HYL.out; simp; omega, fun y hy => (List.mem_append.1 hy).elim (HYK.out y) (fun h => by rw [List.mem_singleton.1 h]; exact HZK.out), CY.out, TY.out⟩
                case measure => simp [intOf]; omega
              · go_wp2_with fail
                go_roundw
                case rel => exact ⟨k + 1, ac, ys, by omega, by go_num, HA6.out, HKA.out, by have := HLA.out; omega, HYS6.out, by have := HYL.out; omega, HYK.out, HC6.out, T6.out⟩
                case measure => simp [intOf]; omega
          · have dp : decide ((k : Int) < (p : Int)) = false := decide_eq_false (by omega)
            go_wp2_with (with_reducible (show wpList _ _ _ (Oper.mk (some 62) (.load 28 (.tmp 61)) _ _ _ _ :: _) _ _); refine still ?_)
            refine wpList_load_mid rfl 28 (.tmp 61) rfl g (o + k * 16) rfl x.vals _ HS.out Try.underlying28 rfl ed_info ?_
            go_wp2_with fail
            refine (close_any wr _ ac x 0 HA.out.1 (by have := HLA.out; omega) HKA.out HXK.out).mono ?_
            rintro r w4 ⟨z, rfl, hz, t4⟩
            have T4 := Lib.hid (HT.out.trans t4 (fun _ _ => id))
            have F4 := Lib.hid t4
            have HZK := Lib.hid hz
            clear t4 hz
            obtain ⟨B, hB⟩ : ∃ Z, w4.heap.size = Z := ⟨_, rfl⟩
            obtain ⟨wz, hwz⟩ : ∃ wz, w4.alloc (.cells ed0.vals.toArray 28) = wz := ⟨_, rfl⟩
            have hx0 : ∀ ev op, op.op = .alloc 28 → (execOp ev op).run Try.prog w4 = .ok (.value (.pointer (some ⟨B, 0, none⟩))) wz := fun ev op ho => by rw [← hwz, ← hB]; exact exec_zero_ed ev op ho _
            have hb0 := box_alloc w4 28 ed0.vals
            rw [hwz] at hb0
            have hh0 := hb0.heap
            rw [hB] at hh0
            have HXX0 := Lib.hid hx0
            have HB0 := Lib.hid hb0
            have HH0 := Lib.hid hh0
            have HE0 := Lib.hid hB
            clear hb0 hB hwz hx0 hh0
            go_wp2_with (with_reducible (show wpList _ _ _ (Oper.mk (some 14) (.alloc 28) _ _ _ _ :: _) _ _); refine still ?_)
            refine list_exec rfl _ _ (HXX0.out _ _ rfl) ?_
            go_wp2_with (with_reducible (show wpList _ _ _ (Oper.mk none (.store 28 (.tmp 14) (.tmp 64)) _ _ _ _ :: _) _ _); refine still ?_)
            refine list_put wz B 28 ed0.vals z.vals HH0.out rfl z.vals_one ed_info rfl (.tmp 14) (.tmp 64) rfl rfl rfl (fun w5 h5 t5 => ?_)
            have HZ5 := Lib.hid (range_of h5)
            have F5 := Lib.hid (F4.out.trans (HB0.out.turn.trans t5 (fun q hq e => by have := HE0.out; omega)) (fun _ _ => id))
            clear h5 t5
            go_wp2_with (with_reducible (show wpList _ _ _ (Oper.mk (some 67) (.load 28 (.tmp 14)) _ _ _ _ :: _) _ _); refine still ?_)
            refine wpList_load_mid rfl 28 (.tmp 14) rfl B 0 rfl z.vals _ HZ5.out Try.underlying28 rfl ed_info ?_
            go_wp2_with fail
            refine (rone_any w5 _ ac z (HA.out.turn F5.out).1 (by have := HLA.out; omega) HKA.out).mono ?_
            rintro r w6 ⟨v6, rfl, hv6, t6, ty6⟩
            have F6 := Lib.hid (F5.out.trans t6 (fun _ _ => id))
            have T6 := Lib.hid (HT.out.trans F6.out (fun _ _ => id))
            have HZ6 := Lib.hid (rangeAt_turn HZ5.out t6 id)
            have HA6 := Lib.hid (HA.out.turn F6.out)
            have HC6 := Lib.hid (HQC.out.turn F6.out)
            have HYS6 := Lib.hid (HYS.out.turn F6.out (fun _ _ => id))
            have HD6 := Lib.hid (ChV.new (w0 := w) hv6 ty6)
            have HKD := Lib.hid (oneE_ok HKA.out HZK.out (show oneE ac z = ((oneE ac z).1, (oneE ac z).2) from rfl))
            have HLD := Lib.hid (show (oneE ac z).1.length ≤ 20 + (k + 1) by have := oneE_len (l := ac) (x := z); have := HLA.out; omega)
            clear t6 ty6 hv6
            obtain ⟨d, hd⟩ : ∃ d, (oneE ac z).2 = d := ⟨_, rfl⟩
            rw [hd]
            clear hd
            by_cases h0 : d = 0
            · have q0 : (d == 0) = true := by simpa using h0
              clear h0
              obtain ⟨vy, wy, hry, hoy, ty, ay, cy, hvy⟩ := app_one_ed w6 w.heap.size 40 40 Try.underlying40 u11 ys z HYS6.out (by have := T6.out.size; omega) (by have := HYL.out; omega)
              subst hvy
              have HRY := Lib.hid hry
              have HOY := Lib.hid (show OwE w.heap.size wy (.slice ay (ys.length + 1) cy) (ys ++ [z]) from by unfold OwE; simpa using hoy)
              have TY := Lib.hid (turn_on_ed HYS6.out (Nat.le_refl _) T6.out ty)
              have CY := Lib.hid (HC6.out.own HYS6.out ty)
              have AY := Lib.hid (HD6.out.own HYS6.out ty)
              clear hry hoy ty
              go_wp2_with (with_reducible (show wpList _ _ _ (Oper.mk (some 78) (.load 28 (.tmp 14)) _ _ _ _ :: _) _ _); refine still ?_)
              refine wpList_load_mid rfl 28 (.tmp 14) rfl B 0 rfl z.vals _ HZ6.out Try.underlying28 rfl ed_info ?_
              go_wp2_with (with_reducible (show wpList _ _ _ (Oper.mk (some 79) (.buildSlice 40 _ _) _ _ _ _ :: _) _ _); refine still ?_)
              refine list_exec rfl _ _ (exec_build_one_ed _ _ (.tmp 78) 40 Try.underlying40 rfl z rfl _) ?_
              go_wp2_with (with_reducible (show wpList _ _ _ (Oper.mk (some 80) (_) _ _ _ _ :: _) _ _); refine still ?_)
              refine list_exec rfl _ _ (exec_append _ _ (.tmp 77) (.tmp 79) 40 rfl _ _ _ _ _ rfl rfl HRY.out) ?_
              go_wp2_with fail
              go_roundw
              case rel => exact ⟨k + 1, _, ys ++ [z], by omega, by go_num, AY.out, HKD.out, HLD.out, HOY.out, by rw [List.length_append]; have := HYL.out; simp; omega, fun y hy => (List.mem_append.1 hy).elim (HYK.out y) (fun h => by rw [List.mem_singleton.1 h]; exact HZK.out), CY.out, TY.out⟩
              case measure => simp [intOf]; omega
            · have q0 : (d == 0) = false := by simpa using h0
              clear h0
              obtain ⟨vy, wy, hry, hoy, ty, ay, cy, hvy⟩ := app_one_ed w6 w.heap.size 40 40 Try.underlying40 u11 ys z HYS6.out (by have := T6.out.size; omega) (by have := HYL.out; omega)
              subst hvy
              have HRY := Lib.hid hry
              have HOY := Lib.hid (show OwE w.heap.size wy (.slice ay (ys.length + 1) cy) (ys ++ [z]) from by unfold OwE; simpa using hoy)
              have TY := Lib.hid (turn_on_ed HYS6.out (Nat.le_refl _) T6.out ty)
              have CY := Lib.hid (HC6.out.own HYS6.out ty)
              have AY := Lib.hid (HA6.out.own HYS6.out ty)
              clear hry hoy ty
              go_wp2_with (with_reducible (show wpList _ _ _ (Oper.mk (some 78) (.load 28 (.tmp 14)) _ _ _ _ :: _) _ _); refine still ?_)
              refine wpList_load_mid rfl 28 (.tmp 14) rfl B 0 rfl z.vals _ HZ6.out Try.underlying28 rfl ed_info ?_
              go_wp2_with (with_reducible (show wpList _ _ _ (Oper.mk (some 79) (.buildSlice 40 _ _) _ _ _ _ :: _) _ _); refine still ?_)
              refine list_exec rfl _ _ (exec_build_one_ed _ _ (.tmp 78) 40 Try.underlying40 rfl z rfl _) ?_
              go_wp2_with (with_reducible (show wpList _ _ _ (Oper.mk (some 80) (_) _ _ _ _ :: _) _ _); refine still ?_)
              refine list_exec rfl _ _ (exec_append _ _ (.tmp 77) (.tmp 79) 40 rfl _ _ _ _ _ rfl rfl HRY.out) ?_
              go_wp2_with fail
              go_roundw
              case rel => exact ⟨k + 1, ac, ys ++ [z], by omega, by go_num, AY.out, HKA.out, by have := HLA.out; omega, HOY.out, by rw [List.length_append]; have := HYL.out; simp; omega, fun y hy => (List.mem_append.1 hy).elim (HYK.out y) (fun h => by rw [List.mem_singleton.1 h]; exact HZK.out), CY.out, TY.out⟩
              case measure => simp [intOf]; omega
        · have hke : k = m := by omega
          subst hke
          have hlc := HD.out.2.2
          have HEB := Lib.hid (show l.length + ys.length ≤ 900 by have := HYL.out; omega)
          have HLC := Lib.hid (show l.length ≤ 20 ∧ ys.length ≤ 20 by have := HYL.out; omega)
          clear hlc
          go_wp2_with fail
          refine (apply_any wr _ _ l ys HQC.out.1 HYS.out.row HEB.out HD.out.2.1 HYK.out).mono ?_
          rintro r w7 ⟨v7, rfl, hv7, t7⟩
          have HV7 := Lib.hid hv7
          have T7 := Lib.hid (HT.out.trans t7 (fun _ _ => id))
          have HC7 := Lib.hid (HQC.out.turn t7)
          have HYS7 := Lib.hid (HYS.out.turn t7 (fun _ _ => id))
          clear hv7 t7
          go_wp2_with fail
          refine (rapply_any w7 _ _ l ys HC7.out.1 HYS7.out.row HEB.out HD.out.2.1 HYK.out).mono ?_
          rintro r w8 ⟨v8, rfl, hv8, t8⟩
          have HDL := Lib.hid (show (applyE l ys).1.length ≤ 40 by have := applyE_len (xs := ys) (l := l); have := HLC.out; omega)
          have HDK := Lib.hid (applyE_ok HD.out.2.1 HYK.out)
          obtain ⟨D, hD⟩ : ∃ D, applyE l ys = D := ⟨_, rfl⟩
          rw [hD] at hv8 HV7 HDL HDK ⊢
          have HDE := Lib.hid hD
          have HV8 := Lib.hid hv8
          have HW8 := Lib.hid (HV7.out.turn t8 (fun _ _ => id))
          have T8 := Lib.hid (T7.out.trans t8 (fun _ _ => id))
          have HC8 := Lib.hid (HC7.out.turn t8)
          have HYS8 := Lib.hid (HYS7.out.turn t8 (fun _ _ => id))
          clear hD hv8 t8 HV7
          obtain ⟨D1, D2, D3⟩ := D
          simp only [] at HDL HDK HV8 HW8 ⊢
          go_wp2_with (go_at_call 13; refine (same_eq w8 _ _ D1 HW8.out HV8.out (by have := HDL.out; omega)).mono ?_; rintro r w9 ⟨rfl, t9⟩; have T9 := Lib.hid t9; clear t9; refine still ?_)
          unfold Still
          by_cases h0 : D3 = 0
          · subst h0
            have HWB := Lib.hid (way_back HD.out.2.1 HYK.out HDE.out)
            go_wp2_with fail
            refine (invert_any w9 _ ys ((HYS8.out.turn T9.out (fun _ _ => id)).row) (by have := HLC.out; omega)).mono ?_
            rintro r w10 ⟨vi, rfl, hvi, t10⟩
            have T10 := Lib.hid (T9.out.trans t10 (fun _ _ => id))
            have HVI := Lib.hid hvi
            clear t10 hvi
            go_wp2_with fail
            refine (apply_any w10 _ _ D1 (invE ys) (HW8.out.turn T10.out (fun _ _ => id)) HVI.out.row (by rw [inv_len]; have := HDL.out; have := HLC.out; omega) HDK.out (inv_ok HYK.out)).mono ?_
            rintro r w11 ⟨v11, rfl, hv11, t11⟩
            rw [HWB.out.1] at hv11 ⊢
            have HV11 := Lib.hid hv11
            have T11 := Lib.hid (T10.out.trans t11 (fun _ _ => id))
            have HC11 := Lib.hid ((HC8.out.turn T11.out))
            clear hv11 t11
            go_wp2_with (go_at_call 13; refine (same_eq w11 _ _ l HV11.out HC11.out.1 (by have := HLC.out; omega)).mono ?_; rintro r w12 ⟨rfl, t12⟩; have T12 := Lib.hid t12; clear t12)
            go_ret
            exact ⟨rfl, (T8.out.trans T11.out (fun _ _ => id)).trans T12.out (fun _ _ => id)⟩
          · have q0 : (D3 != 0) = true := by simpa using h0
            have hn := apply_fst (l := l) (xs := ys) (by rw [HDE.out]; exact h0)
            rw [HDE.out] at hn
            simp only [] at hn
            have hw := HW8.out
            rw [hn] at hw
            obtain ⟨a7, c7, rfl⟩ := hw.form
            clear hw hn h0
            go_wp2_with fail
            go_ret
            exact ⟨rfl, T8.out.trans T9.out (fun _ _ => id)⟩

end Go.Proofs.Ytbokdgcdkmnldaa
