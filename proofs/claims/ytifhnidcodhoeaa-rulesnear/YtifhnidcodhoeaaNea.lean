/- Own contracts: near: cases. No statement is proved here. -/
import Derived.Test.YtifhnidcodhoeaaNek
namespace Go.Proofs.Ytifhnidcodhoeaa
set_option maxRecDepth 100000
open Go.RowKit
set_option linter.unusedVariables false
set_option linter.unusedSimpArgs false

set_option maxHeartbeats 8000000 in
theorem near_big (w : World) (va : Value) (l : List A4) (ai fld : Int) (vn : Int) (vs : ByteArray) (e : El) (how : Int) (hv : ActsV w va l) (hl : 24 < l.length) : Calls Try.prog 4 #[va, .int .u8 ai, .int .u8 fld, .agg (vl vn vs).toArray, .agg e.vals.toArray, .int .u8 how] w fun r w' => r = .returned (.bool true) ∧ Turn (fun _ => False) w w' := by
  obtain ⟨la, lc, rfl⟩ := hv.form
  obtain ⟨L, hL⟩ : ∃ L, l.length = L := ⟨_, rfl⟩
  rw [hL] at hv hl
  simp only [hL]
  have HL := Lib.hid hL
  clear hL
  have hbx := box_alloc w 33 (vl vn vs)
  obtain ⟨X, hX⟩ : ∃ X, w.heap.size = X := ⟨_, rfl⟩
  obtain ⟨w1, hw1⟩ : ∃ w1, w.alloc (.cells (vl vn vs).toArray 33) = w1 := ⟨_, rfl⟩
  rw [hw1] at hbx
  have hby := box_alloc w1 35 e.vals
  obtain ⟨Y, hY⟩ : ∃ Y, w1.heap.size = Y := ⟨_, rfl⟩
  obtain ⟨w2, hw2⟩ : ∃ w2, w1.alloc (.cells e.vals.toArray 35) = w2 := ⟨_, rfl⟩
  rw [hw2] at hby
  have t2 := hbx.turn.trans hby.turn (fun _ _ => id)
  have hrx := rangeAt_turn hbx.range hby.turn id
  have hry := hby.range
  rw [hX] at hrx
  rw [hY] at hry
  have HRX := Lib.hid hrx
  have HRY := Lib.hid hry
  have T2 := Lib.hid t2
  have HV := Lib.hid (hv.turn t2)
  clear hbx hby hrx hry t2 hv
  go_enter Try.func4, Try.ntmps4
  go_wp2_with fail
  refine (awake_any w2).mono ?_
  rintro r w3 ⟨rfl, t3⟩
  have T3 := Lib.hid (T2.out.trans t3 (fun _ _ => id))
  have HV3 := Lib.hid (HV.out.turn t3)
  have HRX3 := Lib.hid (rangeAt_turn HRX.out t3 id)
  have HRY3 := Lib.hid (rangeAt_turn HRY.out t3 id)
  clear t3 hw1 hw2 hX hY
  have d1 : decide ((24 : Int) < (L : Int)) = true := decide_eq_true (by omega)
  go_wp2_with fail
  refine (awake_any w3).mono ?_
  rintro r w4 ⟨rfl, t4⟩
  have T4 := Lib.hid (T3.out.trans t4 (fun _ _ => id))
  clear t4
  go_wp2_with fail
  go_ret
  exact ⟨rfl, T4.out⟩
set_option maxHeartbeats 8000000 in
theorem near_put0 (w : World) (va : Value) (l : List A4) (ai fld : Int) (vn : Int) (vs : ByteArray) (e : El) (how : Int) (hv : ActsV w va l) (hl : l.length ≤ 24) (hh : how.tmod 3 = 0) : Calls Try.prog 4 #[va, .int .u8 ai, .int .u8 fld, .agg (vl vn vs).toArray, .agg e.vals.toArray, .int .u8 how] w fun r w' => r = .returned (.bool true) ∧ Turn (fun _ => False) w w' := by
  obtain ⟨la, lc, rfl⟩ := hv.form
  obtain ⟨L, hL⟩ : ∃ L, l.length = L := ⟨_, rfl⟩
  rw [hL] at hv hl
  simp only [hL]
  have HL := Lib.hid hL
  clear hL
  have hbx := box_alloc w 33 (vl vn vs)
  obtain ⟨X, hX⟩ : ∃ X, w.heap.size = X := ⟨_, rfl⟩
  obtain ⟨w1, hw1⟩ : ∃ w1, w.alloc (.cells (vl vn vs).toArray 33) = w1 := ⟨_, rfl⟩
  rw [hw1] at hbx
  have hby := box_alloc w1 35 e.vals
  obtain ⟨Y, hY⟩ : ∃ Y, w1.heap.size = Y := ⟨_, rfl⟩
  obtain ⟨w2, hw2⟩ : ∃ w2, w1.alloc (.cells e.vals.toArray 35) = w2 := ⟨_, rfl⟩
  rw [hw2] at hby
  have t2 := hbx.turn.trans hby.turn (fun _ _ => id)
  have hrx := rangeAt_turn hbx.range hby.turn id
  have hry := hby.range
  rw [hX] at hrx
  rw [hY] at hry
  have HRX := Lib.hid hrx
  have HRY := Lib.hid hry
  have T2 := Lib.hid t2
  have HV := Lib.hid (hv.turn t2)
  clear hbx hby hrx hry t2 hv
  go_enter Try.func4, Try.ntmps4
  go_wp2_with fail
  refine (awake_any w2).mono ?_
  rintro r w3 ⟨rfl, t3⟩
  have T3 := Lib.hid (T2.out.trans t3 (fun _ _ => id))
  have HV3 := Lib.hid (HV.out.turn t3)
  have HRX3 := Lib.hid (rangeAt_turn HRX.out t3 id)
  have HRY3 := Lib.hid (rangeAt_turn HRY.out t3 id)
  clear t3 hw1 hw2 hX hY
  have d1 : decide ((24 : Int) < (L : Int)) = false := decide_eq_false (by omega)
  have HLL := Lib.hid hl
  clear hl
  go_wp2_with fail
  refine (make_own w3 _ l HV3.out (by rw [HL.out]; have := HLL.out; omega)).mono ?_
  rintro r w4 ⟨u, rfl, how4, t4⟩
  obtain ⟨C, hC⟩ : ∃ C, makeE l = C := ⟨_, rfl⟩
  rw [hC] at how4
  have HG := Lib.hid (show GoodE C from hC ▸ good_makeE l)
  obtain ⟨ca, cc, hform⟩ := how4.form
  subst hform
  obtain ⟨N, hN⟩ : ∃ N, C.length = N := ⟨_, rfl⟩
  rw [hN] at how4
  rw [hN]
  have HN := Lib.hid hN
  have HO4 := Lib.hid how4
  have T4 := Lib.hid (T3.out.trans t4 (fun _ _ => id))
  have HRX4 := Lib.hid (rangeAt_turn HRX3.out t4 id)
  have HRY4 := Lib.hid (rangeAt_turn HRY3.out t4 id)
  have H40 := Lib.hid (show N ≤ 40 from by rw [← hN]; exact HG.out.len)
  clear hC hN how4 t4
  go_wp2_with fail
  refine (rcheck_any w4 _ C HO4.out.row (by rw [HN.out]; have := H40.out; omega)).mono ?_
  obtain ⟨R2, hR2⟩ : ∃ R2, (checkE C).2 = R2 := ⟨_, rfl⟩
  rw [HG.out.ok, hR2]
  rintro r w5 ⟨rfl, t5⟩
  have HO5 := Lib.hid (HO4.out.turn t5 (fun _ _ => id))
  have T5 := Lib.hid (T4.out.trans t5 (fun _ _ => id))
  have HRX5 := Lib.hid (rangeAt_turn HRX4.out t5 id)
  have HRY5 := Lib.hid (rangeAt_turn HRY4.out t5 id)
  clear hR2 t5
  obtain ⟨B, hB⟩ : ∃ B, w5.heap.size = B := ⟨_, rfl⟩
  obtain ⟨wz, hwz⟩ : ∃ wz, w5.alloc (.cells (fv 0 0).toArray 26) = wz := ⟨_, rfl⟩
  have hx2 : ∀ ev op, op.op = .alloc 26 → (execOp ev op).run Try.prog w5 = .ok (.value (.pointer (some ⟨B, 0, none⟩))) wz := fun ev op ho => by rw [← hwz, ← hB]; exact exec_zero26 ev op ho _
  have hb2 := box_alloc w5 26 (fv 0 0)
  rw [hwz] at hb2
  have hh2 := hb2.heap
  rw [hB] at hh2
  have HX2 := Lib.hid hx2
  have HB2 := Lib.hid hb2
  have HH2 := Lib.hid hh2
  have HE2 := Lib.hid hB
  clear hb2 hB hwz hx2 hh2
  go_wp2_with (with_reducible (show wpList _ _ _ (Oper.mk (some 14) (.alloc 26) _ _ _ _ :: _) _ _); refine still ?_)
  refine list_exec rfl _ _ (HX2.out _ _ rfl) ?_
  go_wp2_with (with_reducible (show wpList _ _ _ (Oper.mk none (.store 26 (.tmp 14) (.tmp 30)) _ _ _ _ :: _) _ _); refine still ?_)
  refine list_put wz B 26 (fv 0 0) (fv 0 R2) HH2.out rfl (fv_one _ _) fv_info rfl (.tmp 14) (.tmp 30) rfl rfl rfl (fun w6 hw6 tw6 => ?_)
  have Pw6 := Lib.hid hw6
  have Uw6 := Lib.hid (HB2.out.turn.trans tw6 (fun q hq e => by have := HE2.out; omega))
  clear hw6 tw6
  have HO6 := Lib.hid (HO5.out.turn Uw6.out (fun _ _ => id))
  have T6 := Lib.hid (T5.out.trans Uw6.out (fun _ _ => id))
  have HRX6 := Lib.hid (rangeAt_turn HRX5.out Uw6.out id)
  have HRY6 := Lib.hid (rangeAt_turn HRY5.out Uw6.out id)
  have c0 : w6.cell? ⟨B, 0, none⟩ = some (.int .i64 0) := by have := (range_of Pw6.out) 0 _ rfl; rwa [Nat.zero_add] at this
  go_wp2_with (with_reducible (show wpList _ _ _ (Oper.mk (some 43) (.load 35 (.tmp 10)) _ _ _ _ :: _) _ _); refine still ?_)
  refine wpList_load_mid rfl 35 (.tmp 10) rfl Y 0 rfl e.vals _ HRY6.out Try.underlying35 rfl el_info ?_
  go_wp2_with fail
  refine (rput_any w6 _ C e HO6.out.row HG.out.rises (by rw [HN.out]; have := H40.out; omega)).mono ?_
  rintro r w7 ⟨u7, rfl, ho7, t7⟩
  have HLEN := Lib.hid (show (putE C e).length ≤ 1000 from by have := putE_len C e; have := HG.out.len; omega)
  obtain ⟨ua, uc, hf7⟩ := (own_rowV ho7).form
  subst hf7
  have HR7 := Lib.hid (own_rowV ho7)
  have T7 := Lib.hid (T6.out.trans t7 (fun _ _ => id))
  obtain ⟨D, hD⟩ : ∃ D, putE C e = D := ⟨_, rfl⟩
  rw [hD] at HR7 HLEN
  rw [hD]
  obtain ⟨DN, hDN⟩ : ∃ DN, D.length = DN := ⟨_, rfl⟩
  rw [hDN] at HR7
  rw [hDN]
  clear ho7 t7 hD hDN
  go_wp2_with fail
  refine (rcheck_any w7 _ D HR7.out (by have := (HLEN.out : (D).length ≤ 1000); omega)).mono ?_
  obtain ⟨Q1, hQ1⟩ : ∃ Q1, (checkE D).1 = Q1 := ⟨_, rfl⟩
  obtain ⟨Q2, hQ2⟩ : ∃ Q2, (checkE D).2 = Q2 := ⟨_, rfl⟩
  rw [hQ1, hQ2]
  have HQ1 := Lib.hid hQ1
  have HQ2 := Lib.hid hQ2
  clear hQ1 hQ2
  rintro r wa ⟨rfl, ta⟩
  have TA := Lib.hid (T7.out.trans ta (fun _ _ => id))
  have HWA := Lib.hid ((HR7.out).turn ta (fun _ _ => id))
  clear ta
  obtain ⟨Z, hZ⟩ : ∃ B, wa.heap.size = B := ⟨_, rfl⟩
  obtain ⟨wq, hwq⟩ : ∃ wz, wa.alloc (.cells (fv 0 0).toArray 26) = wz := ⟨_, rfl⟩
  have hx6 : ∀ ev op, op.op = .alloc 26 → (execOp ev op).run Try.prog wa = .ok (.value (.pointer (some ⟨Z, 0, none⟩))) wq := fun ev op ho => by rw [← hwq, ← hZ]; exact exec_zero26 ev op ho _
  have hb6 := box_alloc wa 26 (fv 0 0)
  rw [hwq] at hb6
  have hh6 := hb6.heap
  rw [hZ] at hh6
  have HX6 := Lib.hid hx6
  have HB6 := Lib.hid hb6
  have HH6 := Lib.hid hh6
  have HE6 := Lib.hid hZ
  clear hb6 hZ hwq hx6 hh6
  go_wp2_with (with_reducible (show wpList _ _ _ (Oper.mk (some 16) (.alloc 26) _ _ _ _ :: _) _ _); refine still ?_)
  refine list_exec rfl _ _ (HX6.out _ _ rfl) ?_
  go_wp2_with (with_reducible (show wpList _ _ _ (Oper.mk none (.store 26 (.tmp 16) (.tmp 135)) _ _ _ _ :: _) _ _); refine still ?_)
  refine list_put wq Z 26 (fv 0 0) (fv Q1 Q2) HH6.out rfl (fv_one _ _) fv_info rfl (.tmp 16) (.tmp 135) rfl rfl rfl (fun wt hwt twt => ?_)
  have Pwt := Lib.hid hwt
  have Uwt := Lib.hid (HB6.out.turn.trans twt (fun q hq e => by have := HE6.out; omega))
  clear hwt twt
  have TT := Lib.hid (TA.out.trans Uwt.out (fun _ _ => id))
  have HWT := Lib.hid (HWA.out.turn Uwt.out (fun _ _ => id))
  go_wp2_with fail
  refine (check_any wt _ D HWT.out (HLEN.out)).mono ?_
  rw [HQ1.out, HQ2.out]
  rintro r wu ⟨rfl, tu⟩
  have H5 := Lib.hid (rangeAt_turn (range_of Pwt.out) tu id)
  have TU := Lib.hid (TT.out.trans tu (fun _ _ => id))
  clear tu
  go_wp2_with (with_reducible (show wpList _ _ _ (Oper.mk (some 141) (.load 26 (.tmp 16)) _ _ _ _ :: _) _ _); refine still ?_)
  refine wpList_load_mid rfl 26 (.tmp 16) rfl Z 0 rfl (fv Q1 Q2) _ H5.out Try.underlying26 rfl fv_info ?_
  go_wp2_with (with_reducible (show wpList _ _ _ (Oper.mk (some 144) (.build 26 _) _ _ _ _ :: _) _ _); refine still ?_)
  refine list_exec rfl _ _ (exec_fvB _ _ _ _ Q1 Q2 rfl rfl rfl _) ?_
  go_wp2_with (with_reducible (show wpList _ _ _ (Oper.mk (some 145) (.binOp .eql 26 _ _ 26) _ _ _ _ :: _) _ _); refine still ?_)
  refine list_exec rfl _ _ (exec_eql_fv1 _ _ rfl Q1 Q2 _ rfl rfl) ?_
  go_wp2_with fail
  go_ret
  exact ⟨rfl, TU.out⟩
set_option maxHeartbeats 8000000 in
theorem near_put1 (w : World) (va : Value) (l : List A4) (ai fld : Int) (vn : Int) (vs : ByteArray) (e : El) (how : Int) (hv : ActsV w va l) (hl : l.length ≤ 24) (h3 : Int) (hh : how.tmod 3 = h3) (hh3 : (h3 == 0) = false) (HC0 : (makeE l).length = 0) : Calls Try.prog 4 #[va, .int .u8 ai, .int .u8 fld, .agg (vl vn vs).toArray, .agg e.vals.toArray, .int .u8 how] w fun r w' => r = .returned (.bool true) ∧ Turn (fun _ => False) w w' := by
  have HC00 := Lib.hid HC0
  clear HC0
  obtain ⟨la, lc, rfl⟩ := hv.form
  obtain ⟨L, hL⟩ : ∃ L, l.length = L := ⟨_, rfl⟩
  rw [hL] at hv hl
  simp only [hL]
  have HL := Lib.hid hL
  clear hL
  have hbx := box_alloc w 33 (vl vn vs)
  obtain ⟨X, hX⟩ : ∃ X, w.heap.size = X := ⟨_, rfl⟩
  obtain ⟨w1, hw1⟩ : ∃ w1, w.alloc (.cells (vl vn vs).toArray 33) = w1 := ⟨_, rfl⟩
  rw [hw1] at hbx
  have hby := box_alloc w1 35 e.vals
  obtain ⟨Y, hY⟩ : ∃ Y, w1.heap.size = Y := ⟨_, rfl⟩
  obtain ⟨w2, hw2⟩ : ∃ w2, w1.alloc (.cells e.vals.toArray 35) = w2 := ⟨_, rfl⟩
  rw [hw2] at hby
  have t2 := hbx.turn.trans hby.turn (fun _ _ => id)
  have hrx := rangeAt_turn hbx.range hby.turn id
  have hry := hby.range
  rw [hX] at hrx
  rw [hY] at hry
  have HRX := Lib.hid hrx
  have HRY := Lib.hid hry
  have T2 := Lib.hid t2
  have HV := Lib.hid (hv.turn t2)
  clear hbx hby hrx hry t2 hv
  go_enter Try.func4, Try.ntmps4
  go_wp2_with fail
  refine (awake_any w2).mono ?_
  rintro r w3 ⟨rfl, t3⟩
  have T3 := Lib.hid (T2.out.trans t3 (fun _ _ => id))
  have HV3 := Lib.hid (HV.out.turn t3)
  have HRX3 := Lib.hid (rangeAt_turn HRX.out t3 id)
  have HRY3 := Lib.hid (rangeAt_turn HRY.out t3 id)
  clear t3 hw1 hw2 hX hY
  have d1 : decide ((24 : Int) < (L : Int)) = false := decide_eq_false (by omega)
  have HLL := Lib.hid hl
  clear hl
  go_wp2_with fail
  refine (make_own w3 _ l HV3.out (by rw [HL.out]; have := HLL.out; omega)).mono ?_
  rintro r w4 ⟨u, rfl, how4, t4⟩
  obtain ⟨C, hC⟩ : ∃ C, makeE l = C := ⟨_, rfl⟩
  rw [hC] at how4
  have HG := Lib.hid (show GoodE C from hC ▸ good_makeE l)
  obtain ⟨ca, cc, hform⟩ := how4.form
  subst hform
  obtain ⟨N, hN⟩ : ∃ N, C.length = N := ⟨_, rfl⟩
  rw [hN] at how4
  rw [hN]
  have HN := Lib.hid hN
  have HO4 := Lib.hid how4
  have T4 := Lib.hid (T3.out.trans t4 (fun _ _ => id))
  have HRX4 := Lib.hid (rangeAt_turn HRX3.out t4 id)
  have HRY4 := Lib.hid (rangeAt_turn HRY3.out t4 id)
  have H40 := Lib.hid (show N ≤ 40 from by rw [← hN]; exact HG.out.len)
  have HCC := Lib.hid hC
  clear hC hN how4 t4
  go_wp2_with fail
  refine (rcheck_any w4 _ C HO4.out.row (by rw [HN.out]; have := H40.out; omega)).mono ?_
  obtain ⟨R2, hR2⟩ : ∃ R2, (checkE C).2 = R2 := ⟨_, rfl⟩
  rw [HG.out.ok, hR2]
  rintro r w5 ⟨rfl, t5⟩
  have HO5 := Lib.hid (HO4.out.turn t5 (fun _ _ => id))
  have T5 := Lib.hid (T4.out.trans t5 (fun _ _ => id))
  have HRX5 := Lib.hid (rangeAt_turn HRX4.out t5 id)
  have HRY5 := Lib.hid (rangeAt_turn HRY4.out t5 id)
  clear hR2 t5
  obtain ⟨B, hB⟩ : ∃ B, w5.heap.size = B := ⟨_, rfl⟩
  obtain ⟨wz, hwz⟩ : ∃ wz, w5.alloc (.cells (fv 0 0).toArray 26) = wz := ⟨_, rfl⟩
  have hx2 : ∀ ev op, op.op = .alloc 26 → (execOp ev op).run Try.prog w5 = .ok (.value (.pointer (some ⟨B, 0, none⟩))) wz := fun ev op ho => by rw [← hwz, ← hB]; exact exec_zero26 ev op ho _
  have hb2 := box_alloc w5 26 (fv 0 0)
  rw [hwz] at hb2
  have hh2 := hb2.heap
  rw [hB] at hh2
  have HX2 := Lib.hid hx2
  have HB2 := Lib.hid hb2
  have HH2 := Lib.hid hh2
  have HE2 := Lib.hid hB
  clear hb2 hB hwz hx2 hh2
  go_wp2_with (with_reducible (show wpList _ _ _ (Oper.mk (some 14) (.alloc 26) _ _ _ _ :: _) _ _); refine still ?_)
  refine list_exec rfl _ _ (HX2.out _ _ rfl) ?_
  go_wp2_with (with_reducible (show wpList _ _ _ (Oper.mk none (.store 26 (.tmp 14) (.tmp 30)) _ _ _ _ :: _) _ _); refine still ?_)
  refine list_put wz B 26 (fv 0 0) (fv 0 R2) HH2.out rfl (fv_one _ _) fv_info rfl (.tmp 14) (.tmp 30) rfl rfl rfl (fun w6 hw6 tw6 => ?_)
  have Pw6 := Lib.hid hw6
  have Uw6 := Lib.hid (HB2.out.turn.trans tw6 (fun q hq e => by have := HE2.out; omega))
  clear hw6 tw6
  have HO6 := Lib.hid (HO5.out.turn Uw6.out (fun _ _ => id))
  have T6 := Lib.hid (T5.out.trans Uw6.out (fun _ _ => id))
  have HRX6 := Lib.hid (rangeAt_turn HRX5.out Uw6.out id)
  have HRY6 := Lib.hid (rangeAt_turn HRY5.out Uw6.out id)
  have c0 : w6.cell? ⟨B, 0, none⟩ = some (.int .i64 0) := by have := (range_of Pw6.out) 0 _ rfl; rwa [Nat.zero_add] at this
  have HCASE : N = 0 := by rw [← HN.out, ← HCC.out]; exact HC00.out
  subst HCASE
  go_wp2_with (with_reducible (show wpList _ _ _ (Oper.mk (some 43) (.load 35 (.tmp 10)) _ _ _ _ :: _) _ _); refine still ?_)
  refine wpList_load_mid rfl 35 (.tmp 10) rfl Y 0 rfl e.vals _ HRY6.out Try.underlying35 rfl el_info ?_
  go_wp2_with fail
  refine (rput_any w6 _ C e HO6.out.row HG.out.rises (by rw [HN.out]; have := H40.out; omega)).mono ?_
  rintro r w7 ⟨u7, rfl, ho7, t7⟩
  have HLEN := Lib.hid (show (putE C e).length ≤ 1000 from by have := putE_len C e; have := HG.out.len; omega)
  obtain ⟨ua, uc, hf7⟩ := (own_rowV ho7).form
  subst hf7
  have HR7 := Lib.hid (own_rowV ho7)
  have T7 := Lib.hid (T6.out.trans t7 (fun _ _ => id))
  obtain ⟨D, hD⟩ : ∃ D, putE C e = D := ⟨_, rfl⟩
  rw [hD] at HR7 HLEN
  rw [hD]
  obtain ⟨DN, hDN⟩ : ∃ DN, D.length = DN := ⟨_, rfl⟩
  rw [hDN] at HR7
  rw [hDN]
  clear ho7 t7 hD hDN
  go_wp2_with fail
  refine (rcheck_any w7 _ D HR7.out (by have := (HLEN.out : (D).length ≤ 1000); omega)).mono ?_
  obtain ⟨Q1, hQ1⟩ : ∃ Q1, (checkE D).1 = Q1 := ⟨_, rfl⟩
  obtain ⟨Q2, hQ2⟩ : ∃ Q2, (checkE D).2 = Q2 := ⟨_, rfl⟩
  rw [hQ1, hQ2]
  have HQ1 := Lib.hid hQ1
  have HQ2 := Lib.hid hQ2
  clear hQ1 hQ2
  rintro r wa ⟨rfl, ta⟩
  have TA := Lib.hid (T7.out.trans ta (fun _ _ => id))
  have HWA := Lib.hid ((HR7.out).turn ta (fun _ _ => id))
  clear ta
  obtain ⟨Z, hZ⟩ : ∃ B, wa.heap.size = B := ⟨_, rfl⟩
  obtain ⟨wq, hwq⟩ : ∃ wz, wa.alloc (.cells (fv 0 0).toArray 26) = wz := ⟨_, rfl⟩
  have hx6 : ∀ ev op, op.op = .alloc 26 → (execOp ev op).run Try.prog wa = .ok (.value (.pointer (some ⟨Z, 0, none⟩))) wq := fun ev op ho => by rw [← hwq, ← hZ]; exact exec_zero26 ev op ho _
  have hb6 := box_alloc wa 26 (fv 0 0)
  rw [hwq] at hb6
  have hh6 := hb6.heap
  rw [hZ] at hh6
  have HX6 := Lib.hid hx6
  have HB6 := Lib.hid hb6
  have HH6 := Lib.hid hh6
  have HE6 := Lib.hid hZ
  clear hb6 hZ hwq hx6 hh6
  go_wp2_with (with_reducible (show wpList _ _ _ (Oper.mk (some 16) (.alloc 26) _ _ _ _ :: _) _ _); refine still ?_)
  refine list_exec rfl _ _ (HX6.out _ _ rfl) ?_
  go_wp2_with (with_reducible (show wpList _ _ _ (Oper.mk none (.store 26 (.tmp 16) (.tmp 135)) _ _ _ _ :: _) _ _); refine still ?_)
  refine list_put wq Z 26 (fv 0 0) (fv Q1 Q2) HH6.out rfl (fv_one _ _) fv_info rfl (.tmp 16) (.tmp 135) rfl rfl rfl (fun wt hwt twt => ?_)
  have Pwt := Lib.hid hwt
  have Uwt := Lib.hid (HB6.out.turn.trans twt (fun q hq e => by have := HE6.out; omega))
  clear hwt twt
  have TT := Lib.hid (TA.out.trans Uwt.out (fun _ _ => id))
  have HWT := Lib.hid (HWA.out.turn Uwt.out (fun _ _ => id))
  go_wp2_with fail
  refine (check_any wt _ D HWT.out (HLEN.out)).mono ?_
  rw [HQ1.out, HQ2.out]
  rintro r wu ⟨rfl, tu⟩
  have H5 := Lib.hid (rangeAt_turn (range_of Pwt.out) tu id)
  have TU := Lib.hid (TT.out.trans tu (fun _ _ => id))
  clear tu
  go_wp2_with (with_reducible (show wpList _ _ _ (Oper.mk (some 141) (.load 26 (.tmp 16)) _ _ _ _ :: _) _ _); refine still ?_)
  refine wpList_load_mid rfl 26 (.tmp 16) rfl Z 0 rfl (fv Q1 Q2) _ H5.out Try.underlying26 rfl fv_info ?_
  go_wp2_with (with_reducible (show wpList _ _ _ (Oper.mk (some 144) (.build 26 _) _ _ _ _ :: _) _ _); refine still ?_)
  refine list_exec rfl _ _ (exec_fvB _ _ _ _ Q1 Q2 rfl rfl rfl _) ?_
  go_wp2_with (with_reducible (show wpList _ _ _ (Oper.mk (some 145) (.binOp .eql 26 _ _ 26) _ _ _ _ :: _) _ _); refine still ?_)
  refine list_exec rfl _ _ (exec_eql_fv1 _ _ rfl Q1 Q2 _ rfl rfl) ?_
  go_wp2_with fail
  go_ret
  exact ⟨rfl, TU.out⟩
set_option maxHeartbeats 8000000 in
theorem near_f0 (w : World) (va : Value) (l : List A4) (ai fld : Int) (vn : Int) (vs : ByteArray) (e : El) (how : Int) (hv : ActsV w va l) (hl : l.length ≤ 24) (hai : 0 ≤ ai ∧ ai < 256) (h3 : Int) (hh : how.tmod 3 = h3) (hh3 : (h3 == 0) = false) (HCASE : 0 < (makeE l).length) (hf : fld.tmod 9 = 0) : Calls Try.prog 4 #[va, .int .u8 ai, .int .u8 fld, .agg (vl vn vs).toArray, .agg e.vals.toArray, .int .u8 how] w fun r w' => r = .returned (.bool true) ∧ Turn (fun _ => False) w w' := by
  obtain ⟨la, lc, rfl⟩ := hv.form
  obtain ⟨L, hL⟩ : ∃ L, l.length = L := ⟨_, rfl⟩
  rw [hL] at hv hl
  simp only [hL]
  have HL := Lib.hid hL
  clear hL
  have hbx := box_alloc w 33 (vl vn vs)
  obtain ⟨X, hX⟩ : ∃ X, w.heap.size = X := ⟨_, rfl⟩
  obtain ⟨w1, hw1⟩ : ∃ w1, w.alloc (.cells (vl vn vs).toArray 33) = w1 := ⟨_, rfl⟩
  rw [hw1] at hbx
  have hby := box_alloc w1 35 e.vals
  obtain ⟨Y, hY⟩ : ∃ Y, w1.heap.size = Y := ⟨_, rfl⟩
  obtain ⟨w2, hw2⟩ : ∃ w2, w1.alloc (.cells e.vals.toArray 35) = w2 := ⟨_, rfl⟩
  rw [hw2] at hby
  have t2 := hbx.turn.trans hby.turn (fun _ _ => id)
  have hrx := rangeAt_turn hbx.range hby.turn id
  have hry := hby.range
  rw [hX] at hrx
  rw [hY] at hry
  have HRX := Lib.hid hrx
  have HRY := Lib.hid hry
  have T2 := Lib.hid t2
  have HV := Lib.hid (hv.turn t2)
  clear hbx hby hrx hry t2 hv
  go_enter Try.func4, Try.ntmps4
  go_wp2_with fail
  refine (awake_any w2).mono ?_
  rintro r w3 ⟨rfl, t3⟩
  have T3 := Lib.hid (T2.out.trans t3 (fun _ _ => id))
  have HV3 := Lib.hid (HV.out.turn t3)
  have HRX3 := Lib.hid (rangeAt_turn HRX.out t3 id)
  have HRY3 := Lib.hid (rangeAt_turn HRY.out t3 id)
  clear t3 hw1 hw2 hX hY
  have d1 : decide ((24 : Int) < (L : Int)) = false := decide_eq_false (by omega)
  have HLL := Lib.hid hl
  clear hl
  go_wp2_with fail
  refine (make_own w3 _ l HV3.out (by rw [HL.out]; have := HLL.out; omega)).mono ?_
  rintro r w4 ⟨u, rfl, how4, t4⟩
  obtain ⟨C, hC⟩ : ∃ C, makeE l = C := ⟨_, rfl⟩
  rw [hC] at how4 HCASE
  have HG := Lib.hid (show GoodE C from hC ▸ good_makeE l)
  obtain ⟨ca, cc, hform⟩ := how4.form
  subst hform
  obtain ⟨N, hN⟩ : ∃ N, C.length = N := ⟨_, rfl⟩
  rw [hN] at how4 HCASE
  rw [hN]
  have HN := Lib.hid hN
  have HO4 := Lib.hid how4
  have T4 := Lib.hid (T3.out.trans t4 (fun _ _ => id))
  have HRX4 := Lib.hid (rangeAt_turn HRX3.out t4 id)
  have HRY4 := Lib.hid (rangeAt_turn HRY3.out t4 id)
  have H40 := Lib.hid (show N ≤ 40 from by rw [← hN]; exact HG.out.len)
  clear hC hN how4 t4
  go_wp2_with fail
  refine (rcheck_any w4 _ C HO4.out.row (by rw [HN.out]; have := H40.out; omega)).mono ?_
  obtain ⟨R2, hR2⟩ : ∃ R2, (checkE C).2 = R2 := ⟨_, rfl⟩
  rw [HG.out.ok, hR2]
  rintro r w5 ⟨rfl, t5⟩
  have HO5 := Lib.hid (HO4.out.turn t5 (fun _ _ => id))
  have T5 := Lib.hid (T4.out.trans t5 (fun _ _ => id))
  have HRX5 := Lib.hid (rangeAt_turn HRX4.out t5 id)
  have HRY5 := Lib.hid (rangeAt_turn HRY4.out t5 id)
  clear hR2 t5
  obtain ⟨B, hB⟩ : ∃ B, w5.heap.size = B := ⟨_, rfl⟩
  obtain ⟨wz, hwz⟩ : ∃ wz, w5.alloc (.cells (fv 0 0).toArray 26) = wz := ⟨_, rfl⟩
  have hx2 : ∀ ev op, op.op = .alloc 26 → (execOp ev op).run Try.prog w5 = .ok (.value (.pointer (some ⟨B, 0, none⟩))) wz := fun ev op ho => by rw [← hwz, ← hB]; exact exec_zero26 ev op ho _
  have hb2 := box_alloc w5 26 (fv 0 0)
  rw [hwz] at hb2
  have hh2 := hb2.heap
  rw [hB] at hh2
  have HX2 := Lib.hid hx2
  have HB2 := Lib.hid hb2
  have HH2 := Lib.hid hh2
  have HE2 := Lib.hid hB
  clear hb2 hB hwz hx2 hh2
  go_wp2_with (with_reducible (show wpList _ _ _ (Oper.mk (some 14) (.alloc 26) _ _ _ _ :: _) _ _); refine still ?_)
  refine list_exec rfl _ _ (HX2.out _ _ rfl) ?_
  go_wp2_with (with_reducible (show wpList _ _ _ (Oper.mk none (.store 26 (.tmp 14) (.tmp 30)) _ _ _ _ :: _) _ _); refine still ?_)
  refine list_put wz B 26 (fv 0 0) (fv 0 R2) HH2.out rfl (fv_one _ _) fv_info rfl (.tmp 14) (.tmp 30) rfl rfl rfl (fun w6 hw6 tw6 => ?_)
  have Pw6 := Lib.hid hw6
  have Uw6 := Lib.hid (HB2.out.turn.trans tw6 (fun q hq e => by have := HE2.out; omega))
  clear hw6 tw6
  have HO6 := Lib.hid (HO5.out.turn Uw6.out (fun _ _ => id))
  have T6 := Lib.hid (T5.out.trans Uw6.out (fun _ _ => id))
  have HRX6 := Lib.hid (rangeAt_turn HRX5.out Uw6.out id)
  have HRY6 := Lib.hid (rangeAt_turn HRY5.out Uw6.out id)
  have c0 : w6.cell? ⟨B, 0, none⟩ = some (.int .i64 0) := by have := (range_of Pw6.out) 0 _ rfl; rwa [Nat.zero_add] at this
  have hne : ¬ ((N : Int) = 0) := by omega
  have dN : ((N : Int) == 0) = false := by simpa using hne
  obtain ⟨i, hi⟩ : ∃ i : Nat, ai.tmod (N : Int) = (i : Int) := ⟨(ai.tmod (N : Int)).toNat, by rw [Int.tmod_eq_emod_of_nonneg hai.1]; have := Int.emod_nonneg ai hne; omega⟩
  have hiN : i < N := by rw [Int.tmod_eq_emod_of_nonneg hai.1] at hi; have := Int.emod_lt_of_pos ai (show (0 : Int) < (N : Int) by omega); omega
  obtain ⟨G, hca, hG1, hG2⟩ := HO6.out.at HN.out HCASE
  subst hca
  have HG1 := Lib.hid (show w.heap.size ≤ G from Nat.le_trans T3.out.size hG1)
  have gi : (0 : Int) ≤ (i : Int) ∧ (i : Int) < (N : Int) := by omega
  have gz : (0 : Int) < (N : Int) := by omega
  obtain ⟨M, hM⟩ : ∃ M, w3.heap.size = M := ⟨_, rfl⟩
  rw [hM] at HO6
  have how6 := HO6.out
  unfold OwV at how6
  rw [HN.out] at how6
  obtain ⟨x, hx⟩ : ∃ x, C.getD i el0 = x := ⟨_, rfl⟩
  have k0 : w6.cell? ⟨X, 0, none⟩ = some (.int .i64 vn) := by have := HRX6.out 0 _ rfl; rwa [Nat.zero_add] at this
  have k1 : w6.cell? ⟨X, 1, none⟩ = some (.string vs) := by have := HRX6.out 1 _ rfl; rwa [Nat.zero_add] at this
  obtain ⟨hs, hfz⟩ := own_set how6 HN.out i hiN 1 (by decide) (.int .u8 (vn % 256)) { x with kind := vn % 256 } (by rw [hx]; rfl)
  have tn : Turn (fun q => q = G) w6 (w6.setCell ⟨G, i * 10 + 1, none⟩ (.int .u8 (vn % 256))) := (Turn.refl (fun q => q = G) w6).setCell (p := ⟨G, i * 10 + 1, none⟩) (fun _ => rfl) _
  obtain ⟨cv, hcv⟩ := own_cell how6 HN.out i hiN 1 (by decide)
  obtain ⟨wn, hwn⟩ : ∃ q, w6.setCell ⟨G, i * 10 + 1, none⟩ (.int .u8 (vn % 256)) = q := ⟨_, rfl⟩
  rw [hwn] at hs tn
  obtain ⟨D, hD⟩ : ∃ D, C.set i { x with kind := vn % 256 } = D := ⟨_, rfl⟩
  have hDN : D.length = N := by rw [← hD, List.length_set]; exact HN.out
  rw [hD] at hs
  have HRN := Lib.hid ((show OwV M wn (.slice (some ⟨G, 0, none⟩) N cc) D from by unfold OwV; rw [hDN]; exact hs).row)
  have Tn := Lib.hid (T6.out.trans tn (fun q hq e => by have := HG1.out; omega))
  have HLEN := Lib.hid (show D.length ≤ 1000 from by rw [hDN]; have := H40.out; omega)
  clear hs tn hD hDN how6 hx
  go_wp2_with fail
  refine (rcheck_any wn _ D HRN.out (by have := (HLEN.out : (D).length ≤ 1000); omega)).mono ?_
  obtain ⟨Q1, hQ1⟩ : ∃ Q1, (checkE D).1 = Q1 := ⟨_, rfl⟩
  obtain ⟨Q2, hQ2⟩ : ∃ Q2, (checkE D).2 = Q2 := ⟨_, rfl⟩
  rw [hQ1, hQ2]
  have HQ1 := Lib.hid hQ1
  have HQ2 := Lib.hid hQ2
  clear hQ1 hQ2
  rintro r wa ⟨rfl, ta⟩
  have TA := Lib.hid (Tn.out.trans ta (fun _ _ => id))
  have HWA := Lib.hid ((HRN.out).turn ta (fun _ _ => id))
  clear ta
  obtain ⟨Z, hZ⟩ : ∃ B, wa.heap.size = B := ⟨_, rfl⟩
  obtain ⟨wq, hwq⟩ : ∃ wz, wa.alloc (.cells (fv 0 0).toArray 26) = wz := ⟨_, rfl⟩
  have hx6 : ∀ ev op, op.op = .alloc 26 → (execOp ev op).run Try.prog wa = .ok (.value (.pointer (some ⟨Z, 0, none⟩))) wq := fun ev op ho => by rw [← hwq, ← hZ]; exact exec_zero26 ev op ho _
  have hb6 := box_alloc wa 26 (fv 0 0)
  rw [hwq] at hb6
  have hh6 := hb6.heap
  rw [hZ] at hh6
  have HX6 := Lib.hid hx6
  have HB6 := Lib.hid hb6
  have HH6 := Lib.hid hh6
  have HE6 := Lib.hid hZ
  clear hb6 hZ hwq hx6 hh6
  go_wp2_with (with_reducible (show wpList _ _ _ (Oper.mk (some 16) (.alloc 26) _ _ _ _ :: _) _ _); refine still ?_)
  refine list_exec rfl _ _ (HX6.out _ _ rfl) ?_
  go_wp2_with (with_reducible (show wpList _ _ _ (Oper.mk none (.store 26 (.tmp 16) (.tmp 135)) _ _ _ _ :: _) _ _); refine still ?_)
  refine list_put wq Z 26 (fv 0 0) (fv Q1 Q2) HH6.out rfl (fv_one _ _) fv_info rfl (.tmp 16) (.tmp 135) rfl rfl rfl (fun wt hwt twt => ?_)
  have Pwt := Lib.hid hwt
  have Uwt := Lib.hid (HB6.out.turn.trans twt (fun q hq e => by have := HE6.out; omega))
  clear hwt twt
  have TT := Lib.hid (TA.out.trans Uwt.out (fun _ _ => id))
  have HWT := Lib.hid (HWA.out.turn Uwt.out (fun _ _ => id))
  go_wp2_with fail
  refine (check_any wt _ D HWT.out (HLEN.out)).mono ?_
  rw [HQ1.out, HQ2.out]
  rintro r wu ⟨rfl, tu⟩
  have H5 := Lib.hid (rangeAt_turn (range_of Pwt.out) tu id)
  have TU := Lib.hid (TT.out.trans tu (fun _ _ => id))
  clear tu
  go_wp2_with (with_reducible (show wpList _ _ _ (Oper.mk (some 141) (.load 26 (.tmp 16)) _ _ _ _ :: _) _ _); refine still ?_)
  refine wpList_load_mid rfl 26 (.tmp 16) rfl Z 0 rfl (fv Q1 Q2) _ H5.out Try.underlying26 rfl fv_info ?_
  go_wp2_with (with_reducible (show wpList _ _ _ (Oper.mk (some 144) (.build 26 _) _ _ _ _ :: _) _ _); refine still ?_)
  refine list_exec rfl _ _ (exec_fvB _ _ _ _ Q1 Q2 rfl rfl rfl _) ?_
  go_wp2_with (with_reducible (show wpList _ _ _ (Oper.mk (some 145) (.binOp .eql 26 _ _ 26) _ _ _ _ :: _) _ _); refine still ?_)
  refine list_exec rfl _ _ (exec_eql_fv1 _ _ rfl Q1 Q2 _ rfl rfl) ?_
  go_wp2_with fail
  go_ret
  exact ⟨rfl, TU.out⟩

end Go.Proofs.Ytifhnidcodhoeaa
