/- Own contracts: EditOne. No statement is proved here. -/
import Derived.Test.YtbokdgcdkmnldaaLa
namespace Go.Proofs.Ytbokdgcdkmnldaa
set_option maxRecDepth 100000
open Go.RowKit
set_option linter.unusedVariables false
set_option linter.unusedSimpArgs false

set_option maxHeartbeats 8000000 in
theorem eone_law (w : World) (v : Value) (l : List El) (x : Ed) (how : Int) (raw : Bool) (hv : RowV w v l) (hl : l.length ≤ maxLen) (hk : KOk l) (hx : EdOk x) : Calls Try.prog 3 #[v, .agg x.vals.toArray, .int .u8 how, .bool raw] w fun e w' => e = .returned (.bool true) ∧ Turn (fun _ => False) w w' := by
  obtain ⟨la, lc, rfl⟩ := hv.form
  obtain ⟨n, hn⟩ : ∃ n, l.length = n := ⟨_, rfl⟩
  simp only [hn] at hv hl ⊢
  have HV := Lib.hid hv
  have HN := Lib.hid hn
  have HK := Lib.hid hk
  have HXO := Lib.hid hx
  clear hv hn hk hx
  have hbx := box_alloc w 28 x.vals
  obtain ⟨X, hX⟩ : ∃ X, w.heap.size = X := ⟨_, rfl⟩
  obtain ⟨w1, hw1⟩ : ∃ w1, w.alloc (.cells x.vals.toArray 28) = w1 := ⟨_, rfl⟩
  rw [hw1] at hbx
  have hh := hbx.heap
  rw [hX] at hh
  have hr := hbx.range
  rw [hX] at hr
  obtain ⟨c0, c1, c3, c11, c12, c14⟩ := edC hr
  simp only [Nat.zero_add] at c0 c1 c3 c11 c12 c14
  have T1 := Lib.hid hbx.turn
  have HR := Lib.hid hr
  have HX := Lib.hid hh
  have HXS := Lib.hid hX
  have HSZ := Lib.hid hbx.size
  clear hbx hr hh
  clear c0 c1 c3 c11 c12 c14
  go_enter Try.func3, Try.ntmps3
  go_wp2_with fail
  refine (awake_any w1).mono ?_
  rintro r w2 ⟨rfl, t2⟩
  have T2 := Lib.hid (T1.out.trans t2 (fun _ _ => id))
  have HX2 := Lib.hid ((t2.block X (Array.getElem?_eq_some_iff.1 HX.out).1 id).trans HX.out)
  clear t2
  by_cases hbig : 30 < n
  · have db : decide (30 < n) = true := decide_eq_true hbig
    have db' : decide (30 < (n : Int)) = true := decide_eq_true (by omega)
    clear hbig
    go_wp2_with fail
    refine (awake_any w2).mono ?_
    rintro r w3 ⟨rfl, t3⟩
    go_wp2_with fail
    go_ret
    exact ⟨rfl, T2.out.trans t3 (fun _ _ => id)⟩
  · have db : decide (30 < n) = false := decide_eq_false hbig
    have db' : decide (30 < (n : Int)) = false := decide_eq_false (by omega)
    go_wp2_with fail
    refine (rising_any w2 _ l _ (HV.out.turn T2.out (fun _ _ => id)) (by rw [HN.out]; omega) HK.out).mono ?_
    rintro r w3 ⟨v3, c3, rfl, hv3, hr3, hk3, hl3, t3, hfar, _⟩
    have HFAR := Lib.hid hfar
    have HXLT := Lib.hid (Array.getElem?_eq_some_iff.1 HX2.out).1
    clear hfar
    have T3 := Lib.hid (T2.out.trans t3 (fun _ _ => id))
    have HX3 := Lib.hid ((t3.block X (Array.getElem?_eq_some_iff.1 HX2.out).1 id).trans HX2.out)
    have HC := Lib.hid (show RowV w3 v3 c3 ∧ KOk c3 ∧ c3.length ≤ 30 from ⟨hv3, hk3, by rw [HN.out] at hl3; omega⟩)
    have HD := Lib.hid (show RowV w3 (.slice la n lc) l ∧ KOk l ∧ l.length ≤ 30 from ⟨HV.out.turn T3.out (fun _ _ => id), HK.out, by rw [HN.out]; omega⟩)
    clear hv3 hr3 hk3 hl3 t3 hbig db db'
    cases raw
    · go_wp2_with (with_reducible (show wpList _ _ _ (Oper.mk (some 30) (.load 28 (.tmp 5)) _ _ _ _ :: _) _ _); refine still ?_)
      refine wpList_load_mid rfl 28 (.tmp 5) rfl X 0 rfl x.vals _ (range_of HX3.out) Try.underlying28 rfl ed_info ?_
      go_wp2_with fail
      refine (close_any w3 _ c3 x how HC.out.1 (by have := HC.out.2.2; omega) HC.out.2.1 HXO.out).mono ?_
      rintro r w4 ⟨z, rfl, hz, t4⟩
      have T4 := Lib.hid (T3.out.trans t4 (fun _ _ => id))
      have HC4 := Lib.hid (HC.out.1.turn t4 (fun _ _ => id))
      have HX4 := Lib.hid ((t4.block X (Array.getElem?_eq_some_iff.1 HX3.out).1 id).trans HX3.out)
      have HZ := Lib.hid hz
      clear t4 hz
      go_wp2_with (with_reducible (show wpList _ _ _ (Oper.mk none (.store 28 (.tmp 5) (.tmp 32)) _ _ _ _ :: _) _ _); refine still ?_)
      refine list_put w4 X 28 x.vals z.vals HX4.out rfl z.vals_one ed_info rfl (.tmp 5) (.tmp 32) rfl rfl rfl (fun w5 h5 t5 => ?_)
      have HX5 := Lib.hid h5
      have T5 := Lib.hid (T4.out.trans t5 (fun q hq e => by have := HXS.out; omega))
      have HC5 := Lib.hid (show RowV w5 _ c3 from HC4.out.turn t5 (fun q hq e => by have := HFAR.out q hq; have := HXLT.out; omega))
      clear h5 t5
      obtain ⟨v6, w6, hr6, hv6, t6⟩ := app_from_nil w5 _ c3 HC5.out (by have := HC.out.2.2; omega)
      have HR6 := Lib.hid hr6
      have T6 := Lib.hid (T5.out.trans t6 (fun _ _ => id))
      have HC6 := Lib.hid (HC5.out.turn t6 (fun _ _ => id))
      have HX6 := Lib.hid ((t6.block X (Array.getElem?_eq_some_iff.1 HX5.out).1 id).trans HX5.out)
      have HW6 := Lib.hid hv6
      clear hr6 t6 hv6
      go_wp2_with (with_reducible (show wpList _ _ _ (Oper.mk (some 34) (_) _ _ _ _ :: _) _ _); refine still ?_)
      refine list_exec rfl _ _ (exec_append _ _ (.const (.slice none 0 0)) (.tmp 33) 30 rfl _ _ _ _ _ rfl rfl HR6.out) ?_
      go_wp2_with (with_reducible (show wpList _ _ _ (Oper.mk (some 37) (.load 28 (.tmp 5)) _ _ _ _ :: _) _ _); refine still ?_)
      refine wpList_load_mid rfl 28 (.tmp 5) rfl X 0 rfl z.vals _ (range_of HX6.out) Try.underlying28 rfl ed_info ?_
      go_wp2_with fail
      refine (one_any w6 _ c3 z HC6.out (by have := HC.out.2.2; omega) HC.out.2.1).mono ?_
      rintro r w7 ⟨v7, rfl, hv7, t7, _⟩
      have T7 := Lib.hid (T6.out.trans t7 (fun _ _ => id))
      have HC7 := Lib.hid (HC6.out.turn t7 (fun _ _ => id))
      have HW7 := Lib.hid (HW6.out.turn t7 (fun _ _ => id))
      have HX7 := Lib.hid ((t7.block X (Array.getElem?_eq_some_iff.1 HX6.out).1 id).trans HX6.out)
      have HD7 := Lib.hid hv7
      clear hv7 t7
      go_wp2_with (with_reducible (show wpList _ _ _ (Oper.mk (some 43) (.load 28 (.tmp 5)) _ _ _ _ :: _) _ _); refine still ?_)
      refine wpList_load_mid rfl 28 (.tmp 5) rfl X 0 rfl z.vals _ (range_of HX7.out) Try.underlying28 rfl ed_info ?_
      go_wp2_with fail
      refine (rone_any w7 _ c3 z HC7.out (by have := HC.out.2.2; omega) HC.out.2.1).mono ?_
      rintro r w8 ⟨v8, rfl, hv8, t8, _⟩
      have T8 := Lib.hid (T7.out.trans t8 (fun _ _ => id))
      have HC8 := Lib.hid (HC7.out.turn t8 (fun _ _ => id))
      have HW8 := Lib.hid (HW7.out.turn t8 (fun _ _ => id))
      have HD8 := Lib.hid (HD7.out.turn t8 (fun _ _ => id))
      have HE8 := Lib.hid hv8
      clear hv8 t8
      have HLL := Lib.hid (show (oneE c3 z).1.length ≤ 1000 by have := oneE_len (l := c3) (x := z); have := HC.out.2.2; omega)
      obtain ⟨D, hD⟩ : ∃ D, oneE c3 z = D := ⟨_, rfl⟩
      rw [hD] at HD8 HE8 HLL ⊢
      clear hD HD7
      go_wp2_with (go_at_call 13; refine (same_eq w8 _ _ D.1 HD8.out HE8.out HLL.out).mono ?_; rintro r w9 ⟨rfl, t9⟩; have T9 := Lib.hid t9; clear t9; refine still ?_)
      unfold Still
      go_wp2_with (go_at_call 13; refine (same_eq w9 _ _ c3 (HC8.out.turn T9.out (fun _ _ => id)) (HW8.out.turn T9.out (fun _ _ => id)) (by have := HC.out.2.2; omega)).mono ?_; rintro r w10 ⟨rfl, t10⟩; have T10 := Lib.hid t10; clear t10)
      go_ret
      exact ⟨rfl, (T8.out.trans T9.out (fun _ _ => id)).trans T10.out (fun _ _ => id)⟩
    · go_wp2_with (with_reducible (show wpList _ _ _ (Oper.mk (some 30) (.load 28 (.tmp 5)) _ _ _ _ :: _) _ _); refine still ?_)
      refine wpList_load_mid rfl 28 (.tmp 5) rfl X 0 rfl x.vals _ (range_of HX3.out) Try.underlying28 rfl ed_info ?_
      go_wp2_with fail
      refine (close_any w3 _ l x how HD.out.1 (by have := HD.out.2.2; omega) HD.out.2.1 HXO.out).mono ?_
      rintro r w4 ⟨z, rfl, hz, t4⟩
      have T4 := Lib.hid (T3.out.trans t4 (fun _ _ => id))
      have HC4 := Lib.hid (HD.out.1.turn t4 (fun _ _ => id))
      have HX4 := Lib.hid ((t4.block X (Array.getElem?_eq_some_iff.1 HX3.out).1 id).trans HX3.out)
      have HZ := Lib.hid hz
      clear t4 hz
      go_wp2_with (with_reducible (show wpList _ _ _ (Oper.mk none (.store 28 (.tmp 5) (.tmp 32)) _ _ _ _ :: _) _ _); refine still ?_)
      refine list_put w4 X 28 x.vals z.vals HX4.out rfl z.vals_one ed_info rfl (.tmp 5) (.tmp 32) rfl rfl rfl (fun w5 h5 t5 => ?_)
      have HX5 := Lib.hid h5
      have T5 := Lib.hid (T4.out.trans t5 (fun q hq e => by have := HXS.out; omega))
      have HC5 := Lib.hid (show RowV w5 _ l from HV.out.turn T5.out (fun _ _ => id))
      clear h5 t5
      obtain ⟨v6, w6, hr6, hv6, t6⟩ := app_from_nil w5 _ l HC5.out (by have := HD.out.2.2; omega)
      have HR6 := Lib.hid hr6
      have T6 := Lib.hid (T5.out.trans t6 (fun _ _ => id))
      have HC6 := Lib.hid (HC5.out.turn t6 (fun _ _ => id))
      have HX6 := Lib.hid ((t6.block X (Array.getElem?_eq_some_iff.1 HX5.out).1 id).trans HX5.out)
      have HW6 := Lib.hid hv6
      clear hr6 t6 hv6
      go_wp2_with (with_reducible (show wpList _ _ _ (Oper.mk (some 34) (_) _ _ _ _ :: _) _ _); refine still ?_)
      refine list_exec rfl _ _ (exec_append _ _ (.const (.slice none 0 0)) (.tmp 33) 30 rfl _ _ _ _ _ rfl rfl HR6.out) ?_
      go_wp2_with (with_reducible (show wpList _ _ _ (Oper.mk (some 37) (.load 28 (.tmp 5)) _ _ _ _ :: _) _ _); refine still ?_)
      refine wpList_load_mid rfl 28 (.tmp 5) rfl X 0 rfl z.vals _ (range_of HX6.out) Try.underlying28 rfl ed_info ?_
      go_wp2_with fail
      refine (one_any w6 _ l z HC6.out (by have := HD.out.2.2; omega) HD.out.2.1).mono ?_
      rintro r w7 ⟨v7, rfl, hv7, t7, _⟩
      have T7 := Lib.hid (T6.out.trans t7 (fun _ _ => id))
      have HC7 := Lib.hid (HC6.out.turn t7 (fun _ _ => id))
      have HW7 := Lib.hid (HW6.out.turn t7 (fun _ _ => id))
      have HX7 := Lib.hid ((t7.block X (Array.getElem?_eq_some_iff.1 HX6.out).1 id).trans HX6.out)
      have HD7 := Lib.hid hv7
      clear hv7 t7
      go_wp2_with (with_reducible (show wpList _ _ _ (Oper.mk (some 43) (.load 28 (.tmp 5)) _ _ _ _ :: _) _ _); refine still ?_)
      refine wpList_load_mid rfl 28 (.tmp 5) rfl X 0 rfl z.vals _ (range_of HX7.out) Try.underlying28 rfl ed_info ?_
      go_wp2_with fail
      refine (rone_any w7 _ l z HC7.out (by have := HD.out.2.2; omega) HD.out.2.1).mono ?_
      rintro r w8 ⟨v8, rfl, hv8, t8, _⟩
      have T8 := Lib.hid (T7.out.trans t8 (fun _ _ => id))
      have HC8 := Lib.hid (HC7.out.turn t8 (fun _ _ => id))
      have HW8 := Lib.hid (HW7.out.turn t8 (fun _ _ => id))
      have HD8 := Lib.hid (HD7.out.turn t8 (fun _ _ => id))
      have HE8 := Lib.hid hv8
      clear hv8 t8
      have HLL := Lib.hid (show (oneE l z).1.length ≤ 1000 by have := oneE_len (l := l) (x := z); have := HD.out.2.2; omega)
      obtain ⟨D, hD⟩ : ∃ D, oneE l z = D := ⟨_, rfl⟩
      rw [hD] at HD8 HE8 HLL ⊢
      clear hD HD7
      go_wp2_with (go_at_call 13; refine (same_eq w8 _ _ D.1 HD8.out HE8.out HLL.out).mono ?_; rintro r w9 ⟨rfl, t9⟩; have T9 := Lib.hid t9; clear t9; refine still ?_)
      unfold Still
      go_wp2_with (go_at_call 13; refine (same_eq w9 _ _ l (HC8.out.turn T9.out (fun _ _ => id)) (HW8.out.turn T9.out (fun _ _ => id)) (by have := HD.out.2.2; omega)).mono ?_; rintro r w10 ⟨rfl, t10⟩; have T10 := Lib.hid t10; clear t10)
      go_ret
      exact ⟨rfl, (T8.out.trans T9.out (fun _ _ => id)).trans T10.out (fun _ _ => id)⟩

end Go.Proofs.Ytbokdgcdkmnldaa
