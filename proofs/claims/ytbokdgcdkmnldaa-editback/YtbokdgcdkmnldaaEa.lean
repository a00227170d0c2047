/- Own contracts: edits: classes, turned. No statement is proved here. -/
import Derived.Test.YtbokdgcdkmnldaaEd
namespace Go.Proofs.Ytbokdgcdkmnldaa
set_option maxRecDepth 100000
open Go.RowKit
set_option linter.unusedVariables false
set_option linter.unusedSimpArgs false

def ofE (f : Int) : Int := if f = 1 then 3 else if f = 2 then 4 else if f = 4 ∨ f = 5 then 5 else 1
theorem of_any (f : Int) (w : World) : Calls Try.prog 17 #[.int .i64 f] w fun e w' => e = .returned (.int .u8 (ofE f)) ∧ w' = w := by
  go_enter Try.func17, Try.ntmps17
  go_wp2_with fail
  all_goals (go_ret; refine ⟨?_, rfl⟩)
  all_goals (refine congrArg (fun b => Ending.returned (Value.int .u8 b)) ?_; simp_all [ofE])
def classE (x : Ed) : Int := if x.op = 1 then 6 else if x.op = 2 then 2 else ofE x.f
theorem class_any (x : Ed) (w : World) : Calls Try.prog 18 #[.agg x.vals.toArray] w fun e w' => e = .returned (.int .u8 (classE x)) ∧ Turn (fun _ => False) w w' := by
  have hbx := box_alloc w 28 x.vals
  obtain ⟨X, hX⟩ : ∃ X, w.heap.size = X := ⟨_, rfl⟩
  obtain ⟨w1, hw1⟩ : ∃ w1, w.alloc (.cells x.vals.toArray 28) = w1 := ⟨_, rfl⟩
  rw [hw1] at hbx
  have hh := hbx.heap
  rw [hX] at hh
  have hr := hbx.range
  rw [hX] at hr
  obtain ⟨c0, c1, c3, c11, c12, c14⟩ := edC hr
  simp only [Nat.zero_add] at c0 c1 c3 c11 c12 c14
  have T1 := Lib.hid hbx.turn
  have HR := Lib.hid hr
  have HX := Lib.hid hh
  have HXS := Lib.hid hX
  have HSZ := Lib.hid hbx.size
  clear hbx hr hh
  clear HR HX HXS HSZ
  by_cases h1 : x.op = 1
  · have q1 : (x.op == 1) = true := by simpa using h1
    have HK := Lib.hid (show classE x = 6 by unfold classE; rw [if_pos h1])
    clear h1
    go_enter Try.func18, Try.ntmps18
    go_wp2_with fail
    go_ret
    exact ⟨by rw [HK.out]; rfl, T1.out⟩
  · have q1 : (x.op == 1) = false := by simpa using h1
    by_cases h2 : x.op = 2
    · have q2 : (x.op == 2) = true := by simpa using h2
      have HK := Lib.hid (show classE x = 2 by unfold classE; rw [if_neg h1, if_pos h2])
      clear h1 h2
      go_enter Try.func18, Try.ntmps18
      go_wp2_with fail
      go_ret
      exact ⟨by rw [HK.out]; rfl, T1.out⟩
    · have q2 : (x.op == 2) = false := by simpa using h2
      have HK := Lib.hid (show classE x = ofE x.f by unfold classE; rw [if_neg h1, if_neg h2])
      clear h1 h2
      go_enter Try.func18, Try.ntmps18
      go_wp2_with fail
      refine (of_any _ _).mono ?_
      rintro r w2 ⟨rfl, rfl⟩
      go_wp2_with fail
      go_ret
      exact ⟨by rw [HK.out]; rfl, T1.out⟩
theorem turned_any (x : Ed) (w : World) : Calls Try.prog 39 #[.agg x.vals.toArray] w fun e w' => e = .returned (.agg (turnE x).vals.toArray) ∧ Turn (fun _ => False) w w' := by
  have hbx := box_alloc w 28 x.vals
  obtain ⟨X, hX⟩ : ∃ X, w.heap.size = X := ⟨_, rfl⟩
  obtain ⟨w1, hw1⟩ : ∃ w1, w.alloc (.cells x.vals.toArray 28) = w1 := ⟨_, rfl⟩
  rw [hw1] at hbx
  have hh := hbx.heap
  rw [hX] at hh
  have hr := hbx.range
  rw [hX] at hr
  obtain ⟨c0, c1, c3, c11, c12, c14⟩ := edC hr
  simp only [Nat.zero_add] at c0 c1 c3 c11 c12 c14
  have T1 := Lib.hid hbx.turn
  have HR := Lib.hid hr
  have HX := Lib.hid hh
  have HXS := Lib.hid hX
  have HSZ := Lib.hid hbx.size
  clear hbx hr hh
  obtain ⟨Z, hZ⟩ : ∃ Z, w1.heap.size = Z := ⟨_, rfl⟩
  obtain ⟨w2, hw2⟩ : ∃ wz, w1.alloc (.cells ed0.vals.toArray 28) = wz := ⟨_, rfl⟩
  have hx0 : ∀ ev op, op.op = .alloc 28 → (execOp ev op).run Try.prog w1 = .ok (.value (.pointer (some ⟨Z, 0, none⟩))) w2 := fun ev op ho => by rw [← hw2, ← hZ]; exact exec_zero_ed ev op ho _
  have hb0 := box_alloc w1 28 ed0.vals
  rw [hw2] at hb0
  have hh0 := hb0.heap
  rw [hZ] at hh0
  have HXX0 := Lib.hid hx0
  have HB0 := Lib.hid hb0
  have HH0 := Lib.hid hh0
  have HE0 := Lib.hid hZ
  clear hb0 hZ hw2 hx0 hh0
  have HX2 := Lib.hid ((HB0.out.turn.block X (Array.getElem?_eq_some_iff.1 HX.out).1 id).trans HX.out)
  have HXZ := Lib.hid (show X < Z by have := HE0.out; have := HSZ.out; have := HXS.out; omega)
  have T2 := Lib.hid (T1.out.trans HB0.out.turn (fun _ _ => id))
  have hr2 := range_of HX2.out
  obtain ⟨d0, d1, d3, d11, d12, d14⟩ := edC hr2
  have HO2 := Lib.hid (edO hr2)
  have HN2 := Lib.hid (edN hr2)
  simp only [Nat.zero_add] at d0 d1 d3 d11 d12 d14
  clear c0 c1 c3 c11 c12 c14 hr2
  by_cases h1 : x.op = 1
  · have q1 : (x.op == 1) = true := by simpa using h1
    obtain ⟨y, hy⟩ : ∃ y : Ed, { x with op := 2 } = y := ⟨_, rfl⟩
    have HTE := Lib.hid (show turnE x = y by unfold turnE; rw [if_pos h1, hy])
    clear h1
    have hy2 : (x.vals.set 0 (.int .u8 2)) = y.vals := by rw [← hy]; rfl
    have HYY := Lib.hid hy2
    clear hy hy2
    go_enter Try.func39, Try.ntmps39
    go_wp2_with (with_reducible (show wpList _ _ _ (Oper.mk (some 2) (.alloc 28) _ _ _ _ :: _) _ _); refine still ?_)
    refine list_exec rfl _ _ (HXX0.out _ _ rfl) ?_
    go_wp2_with (with_reducible (show wpList _ _ _ (Oper.mk none (.store 5 (.tmp 13) _) _ _ _ _ :: _) _ _); refine still ?_)
    refine list_set1 w2 X 28 5 x.vals 0 (.int .u8 2) HX2.out (by rw [Ed.vlen]; decide) rfl rfl (by kernel_rfl) rfl (.tmp 13) _ rfl rfl rfl (fun w9 h9 t9 => ?_)
    rw [HYY.out] at h9
    have HY := Lib.hid h9
    have HZ9 := Lib.hid ((t9.block Z (Array.getElem?_eq_some_iff.1 HH0.out).1 (fun e => by have := HXZ.out; omega)).trans HH0.out)
    have T9 := Lib.hid (T2.out.trans t9 (fun q hq e => by have := HXS.out; omega))
    clear h9 t9 d0 d1 d3 d11 d12 d14
    go_wp2_with (with_reducible (show wpList _ _ _ (Oper.mk (some 17) (.load 28 (.tmp 1)) _ _ _ _ :: _) _ _); refine still ?_)
    refine wpList_load_mid rfl 28 (.tmp 1) rfl X 0 rfl y.vals _ (range_of HY.out) Try.underlying28 rfl ed_info ?_
    go_wp2_with (with_reducible (show wpList _ _ _ (Oper.mk none (.store 28 (.tmp 2) (.tmp 17)) _ _ _ _ :: _) _ _); refine still ?_)
    refine list_put w9 Z 28 ed0.vals y.vals HZ9.out rfl y.vals_one ed_info rfl (.tmp 2) (.tmp 17) rfl rfl rfl (fun w5 h5 t5 => ?_)
    have H5 := Lib.hid h5
    have T5 := Lib.hid (T9.out.trans t5 (fun q hq e => by have := HE0.out; have := HSZ.out; omega))
    clear h5 t5
    go_wp2_with fail
    refine bodyPost_ret (run_cell Try.f39 2 28 (by kernel_rfl) Z _ w5 (range_of H5.out) Try.underlying28 rfl ed_info _ rfl) rfl ?_
    exact ⟨by rw [HTE.out], T5.out⟩
  · have q1 : (x.op == 1) = false := by simpa using h1
    by_cases h2 : x.op = 2
    · have q2 : (x.op == 2) = true := by simpa using h2
      obtain ⟨y, hy⟩ : ∃ y : Ed, { x with op := 1 } = y := ⟨_, rfl⟩
      have HTE := Lib.hid (show turnE x = y by unfold turnE; rw [if_neg h1, if_pos h2, hy])
      clear h1 h2
      have hy2 : (x.vals.set 0 (.int .u8 1)) = y.vals := by rw [← hy]; rfl
      have HYY := Lib.hid hy2
      clear hy hy2
      go_enter Try.func39, Try.ntmps39
      go_wp2_with (with_reducible (show wpList _ _ _ (Oper.mk (some 2) (.alloc 28) _ _ _ _ :: _) _ _); refine still ?_)
      refine list_exec rfl _ _ (HXX0.out _ _ rfl) ?_
      go_wp2_with (with_reducible (show wpList _ _ _ (Oper.mk none (.store 5 (.tmp 16) _) _ _ _ _ :: _) _ _); refine still ?_)
      refine list_set1 w2 X 28 5 x.vals 0 (.int .u8 1) HX2.out (by rw [Ed.vlen]; decide) rfl rfl (by kernel_rfl) rfl (.tmp 16) _ rfl rfl rfl (fun w9 h9 t9 => ?_)
      rw [HYY.out] at h9
      have HY := Lib.hid h9
      have HZ9 := Lib.hid ((t9.block Z (Array.getElem?_eq_some_iff.1 HH0.out).1 (fun e => by have := HXZ.out; omega)).trans HH0.out)
      have T9 := Lib.hid (T2.out.trans t9 (fun q hq e => by have := HXS.out; omega))
      clear h9 t9 d0 d1 d3 d11 d12 d14
      go_wp2_with (with_reducible (show wpList _ _ _ (Oper.mk (some 17) (.load 28 (.tmp 1)) _ _ _ _ :: _) _ _); refine still ?_)
      refine wpList_load_mid rfl 28 (.tmp 1) rfl X 0 rfl y.vals _ (range_of HY.out) Try.underlying28 rfl ed_info ?_
      go_wp2_with (with_reducible (show wpList _ _ _ (Oper.mk none (.store 28 (.tmp 2) (.tmp 17)) _ _ _ _ :: _) _ _); refine still ?_)
      refine list_put w9 Z 28 ed0.vals y.vals HZ9.out rfl y.vals_one ed_info rfl (.tmp 2) (.tmp 17) rfl rfl rfl (fun w5 h5 t5 => ?_)
      have H5 := Lib.hid h5
      have T5 := Lib.hid (T9.out.trans t5 (fun q hq e => by have := HE0.out; have := HSZ.out; omega))
      clear h5 t5
      go_wp2_with fail
      refine bodyPost_ret (run_cell Try.f39 2 28 (by kernel_rfl) Z _ w5 (range_of H5.out) Try.underlying28 rfl ed_info _ rfl) rfl ?_
      exact ⟨by rw [HTE.out], T5.out⟩
    · have q2 : (x.op == 2) = false := by simpa using h2
      obtain ⟨y, hy⟩ : ∃ y : Ed, { x with on := x.nn, os := x.ns, nn := x.on, ns := x.os } = y := ⟨_, rfl⟩
      have HTE := Lib.hid (show turnE x = y by unfold turnE; rw [if_neg h1, if_neg h2, hy])
      clear h1 h2
      have hy1 : x.vals.take 12 ++ vl x.nn x.ns ++ x.vals.drop (12 + (vl x.nn x.ns).length) = ({ x with on := x.nn, os := x.ns } : Ed).vals := rfl
      have hy2 : ({ x with on := x.nn, os := x.ns } : Ed).vals.take 14 ++ vl x.on x.os ++ ({ x with on := x.nn, os := x.ns } : Ed).vals.drop (14 + (vl x.on x.os).length) = y.vals := by rw [← hy]; rfl
      have HYA := Lib.hid hy1
      have HYY := Lib.hid hy2
      clear hy hy1 hy2
      go_enter Try.func39, Try.ntmps39
      go_wp2_with (with_reducible (show wpList _ _ _ (Oper.mk (some 2) (.alloc 28) _ _ _ _ :: _) _ _); refine still ?_)
      refine list_exec rfl _ _ (HXX0.out _ _ rfl) ?_
      go_wp2_with (with_reducible (show wpList _ _ _ (Oper.mk (some 6) (.load 26 (.tmp 5)) _ _ _ _ :: _) _ _); refine still ?_)
      refine wpList_load_mid rfl 26 (.tmp 5) rfl X 14 rfl (vl x.nn x.ns) _ HN2.out Try.underlying26 rfl vl_info ?_
      go_wp2_with (with_reducible (show wpList _ _ _ (Oper.mk (some 8) (.load 26 (.tmp 7)) _ _ _ _ :: _) _ _); refine still ?_)
      refine wpList_load_mid rfl 26 (.tmp 7) rfl X 12 rfl (vl x.on x.os) _ HO2.out Try.underlying26 rfl vl_info ?_
      go_wp2_with (with_reducible (show wpList _ _ _ (Oper.mk none (.store 26 (.tmp 9) (.tmp 6)) _ _ _ _ :: _) _ _); refine still ?_)
      refine list_mid w2 X 12 28 26 x.vals (vl x.nn x.ns) HX2.out (by show 14 ≤ 16; decide) (vl_one _ _) vl_info rfl (.tmp 9) (.tmp 6) rfl rfl rfl (fun w8 h8 t8 => ?_)
      rw [HYA.out] at h8
      have H8 := Lib.hid h8
      have HZ8 := Lib.hid ((t8.block Z (Array.getElem?_eq_some_iff.1 HH0.out).1 (fun e => by have := HXZ.out; omega)).trans HH0.out)
      have T8 := Lib.hid (T2.out.trans t8 (fun q hq e => by have := HXS.out; omega))
      clear h8 t8 d0 d1 d3 d11 d12 d14
      go_wp2_with (with_reducible (show wpList _ _ _ (Oper.mk none (.store 26 (.tmp 10) (.tmp 8)) _ _ _ _ :: _) _ _); refine still ?_)
      refine list_mid w8 X 14 28 26 _ (vl x.on x.os) H8.out (by show 16 ≤ 16; decide) (vl_one _ _) vl_info rfl (.tmp 10) (.tmp 8) rfl rfl rfl (fun w9 h9 t9 => ?_)
      rw [HYY.out] at h9
      have HY := Lib.hid h9
      have HZ9 := Lib.hid ((t9.block Z (Array.getElem?_eq_some_iff.1 HZ8.out).1 (fun e => by have := HXZ.out; omega)).trans HZ8.out)
      have T9 := Lib.hid (T8.out.trans t9 (fun q hq e => by have := HXS.out; omega))
      clear h9 t9
      go_wp2_with (with_reducible (show wpList _ _ _ (Oper.mk (some 17) (.load 28 (.tmp 1)) _ _ _ _ :: _) _ _); refine still ?_)
      refine wpList_load_mid rfl 28 (.tmp 1) rfl X 0 rfl y.vals _ (range_of HY.out) Try.underlying28 rfl ed_info ?_
      go_wp2_with (with_reducible (show wpList _ _ _ (Oper.mk none (.store 28 (.tmp 2) (.tmp 17)) _ _ _ _ :: _) _ _); refine still ?_)
      refine list_put w9 Z 28 ed0.vals y.vals HZ9.out rfl y.vals_one ed_info rfl (.tmp 2) (.tmp 17) rfl rfl rfl (fun w5 h5 t5 => ?_)
      have H5 := Lib.hid h5
      have T5 := Lib.hid (T9.out.trans t5 (fun q hq e => by have := HE0.out; have := HSZ.out; omega))
      clear h5 t5
      go_wp2_with fail
      refine bodyPost_ret (run_cell Try.f39 2 28 (by kernel_rfl) Z _ w5 (range_of H5.out) Try.underlying28 rfl ed_info _ rfl) rfl ?_
      exact ⟨by rw [HTE.out], T5.out⟩

end Go.Proofs.Ytbokdgcdkmnldaa
