/- Own texts, packed: L1. No statement is proved here. -/
import Derived.Test.YtkciaafkhpjnaaaQ33
import Derived.Test.YtkciaafkhpjnaaaQ34
import Derived.Test.YtkciaafkhpjnaaaQ17
import Derived.Test.YtkciaafkhpjnaaaQ20
import Derived.Test.YtkciaafkhpjnaaaQ09
import Derived.Test.YtkciaafkhpjnaaaQ27
namespace Go.Proofs.Ytkciaafkhpjnaaa
set_option maxRecDepth 100000
open Go.RowKit
set_option linter.unusedVariables false
set_option linter.unusedSimpArgs false

theorem edok_diff {a b : List El} (ha : GoodD a) (hb : GoodD b) (hka : KOk a) (hkb : KOk b) : ∀ d ∈ (diffE a b).1, EdOk d := by
  intro d hd
  rcases (diff_mem ha hb).1 hd with ⟨e, he, _, rfl⟩ | ⟨x, hx, y, _, f, _, _, rfl⟩ | ⟨e, he, _, rfl⟩
  · exact hkb e he
  · show 0 ≤ (0 : Int) ∧ (0 : Int) ≤ 255; omega
  · exact hka e he
theorem edok_inv {l : List Ed} (h : ∀ d ∈ l, EdOk d) : ∀ d ∈ invE l, EdOk d := by
  intro d hd
  unfold invE at hd
  obtain ⟨x, hx, rfl⟩ := List.mem_map.1 hd
  have := h x (by simpa using hx)
  unfold EdOk at *
  unfold turnE
  split <;> (try split) <;> exact this
theorem diffE_len {a b : List El} (ha : GoodE a) (hb : GoodE b) : (diffE a b).1.length ≤ 440 := by
  have o1 := ord_good hb.good a
  have o2 := ord_good ha.good b
  have h1 := (ord_perm hb.rises o1).length_eq
  have h2 := (ord_perm ha.rises o2).length_eq
  have h3 := List.length_filter_le (fun e => !hasB a e.id) b
  have h4 := List.length_filter_le (fun e => !hasB b e.id) a
  have h5 := setsE_len a b
  have h6 := ha.len
  have h7 := hb.len
  rw [diff_ok ((risesB_iff _).2 ha.rises) ((risesB_iff _).2 hb.rises) o1 o2]
  simp only [List.length_append, List.length_map, List.length_reverse]
  omega
set_option maxHeartbeats 16000000 in
theorem leads_law (W : World) (v0 v1 : Value) (n0 n1 : List A4) (near : Bool) (h0 : ActsV W v0 n0) (h1 : ActsV W v1 n1) : Calls Try.prog 3 #[v0, v1, .bool near] W fun e w' => e = .returned (.bool true) ∧ Turn (fun _ => False) W w' := by
  obtain ⟨la, lc, rfl⟩ := h0.form
  obtain ⟨n, hn⟩ : ∃ n, n0.length = n := ⟨_, rfl⟩
  obtain ⟨ma, mc, rfl⟩ := h1.form
  obtain ⟨m, hm⟩ : ∃ m, n1.length = m := ⟨_, rfl⟩
  rw [hn] at h0
  rw [hm] at h1
  simp only [hn, hm]
  have H0 := Lib.hid h0
  have H1 := Lib.hid h1
  have HN := Lib.hid hn
  have HM := Lib.hid hm
  clear h0 h1 hn hm
  go_enter Try.func3, Try.ntmps3
  go_wp2_with fail
  refine (awake_any W).mono ?_
  rintro r w1 ⟨rfl, t1⟩
  have T1 := Lib.hid t1
  clear t1
  by_cases hb0 : 24 < n
  · have db0 : decide (24 < (n : Int)) = true := decide_eq_true (by omega)
    go_wp2_with fail
    refine (awake_any w1).mono ?_
    rintro r w2 ⟨rfl, t2⟩
    go_wp2_with fail
    go_ret
    exact ⟨rfl, T1.out.trans t2 (fun _ _ => id)⟩
  · have db0 : decide (24 < (n : Int)) = false := decide_eq_false (by omega)
    by_cases hb1 : 24 < m
    · have db1 : decide (24 < (m : Int)) = true := decide_eq_true (by omega)
      go_wp2_with fail
      refine (awake_any w1).mono ?_
      rintro r w2 ⟨rfl, t2⟩
      go_wp2_with fail
      go_ret
      exact ⟨rfl, T1.out.trans t2 (fun _ _ => id)⟩
    · have db1 : decide (24 < (m : Int)) = false := decide_eq_false (by omega)
      go_wp2_with fail
      refine (make_any w1 _ n0 (H0.out.turn T1.out) (by rw [HN.out]; omega)).mono ?_
      rintro r w2 ⟨vx, rfl, hx, t2⟩
      have T2 := Lib.hid (T1.out.trans t2 (fun _ _ => id))
      have HX2 := Lib.hid hx
      clear t2 hx
      go_wp2_with fail
      refine (make_any w2 _ n1 (H1.out.turn T2.out) (by rw [HM.out]; omega)).mono ?_
      rintro r w3 ⟨vy, rfl, hy, t3⟩
      have T3 := Lib.hid (T2.out.trans t3 (fun _ _ => id))
      have HX3 := Lib.hid (HX2.out.turn t3 (fun _ _ => id))
      have HY3 := Lib.hid hy
      clear t3 hy
      have GX := Lib.hid (good_makeE n0)
      have GY0 := Lib.hid (good_makeE n1)
      obtain ⟨X, hX⟩ : ∃ X, makeE n0 = X := ⟨_, rfl⟩
      obtain ⟨Y0, hY⟩ : ∃ Y, makeE n1 = Y := ⟨_, rfl⟩
      rw [hX] at HX3 GX
      rw [hY] at HY3 GY0
      clear hX hY
      cases near
      · have T4 := T3
        have HX4 := HX3
        have HY4 := HY3
        have GY := GY0
        obtain ⟨Y, hY⟩ : ∃ Y, Y = Y0 := ⟨_, rfl⟩
        obtain ⟨w4, hw4⟩ : ∃ w4, w4 = w3 := ⟨_, rfl⟩
        subst hY hw4
        have HLN := Lib.hid (show X.length ≤ 40 ∧ Y.length ≤ 40 from ⟨GX.out.len, GY.out.len⟩)
        have HDL := Lib.hid (diffE_len GX.out GY.out)
        have HEO := Lib.hid (edok_diff GX.out.good GY.out.good GX.out.kok GY.out.kok)
        have HNI := Lib.hid (diff_nil GX.out.good GY.out.good)
        obtain ⟨L, hd1, hd2⟩ := diff_leads GX.out.good GY.out.good
        rw [hd1] at HDL HEO HNI
        have HWB := Lib.hid (way_back GX.out.kok HEO.out hd2)
        have HD1 := Lib.hid hd1
        have HD2 := Lib.hid hd2
        clear hd1 hd2
        go_wp2_with fail
        refine (dif_any w4 _ _ X Y HX4.out HY4.out GX.out.kok GY.out.kok GX.out.iok GY.out.iok (by have := HLN.out; omega) (by have := HLN.out; omega)).mono ?_
        rintro r w5 ⟨v5, rfl, hv5, t5⟩
        rw [HD1.out] at hv5 ⊢
        obtain ⟨q, hq⟩ : ∃ q, L.length = q := ⟨_, rfl⟩
        obtain ⟨qa, qc, rfl⟩ : ∃ x y, v5 = .slice x q y := by rw [← hq]; exact hv5.form
        have T5 := Lib.hid (T4.out.trans t5 (fun _ _ => id))
        have HX5 := Lib.hid (HX4.out.turn t5 (fun _ _ => id))
        have HY5 := Lib.hid (HY4.out.turn t5 (fun _ _ => id))
        have HL5 := Lib.hid (show EdV w5 (.slice qa q qc) L from hv5)
        have HQ := Lib.hid hq
        clear hv5 t5 hq
        go_wp2_with fail
        refine (apply_any w5 _ _ X L HX5.out HL5.out (by have := HLN.out; have := HDL.out; omega) GX.out.kok HEO.out).mono ?_
        rintro r w6 ⟨v6, rfl, hv6, t6⟩
        rw [HD2.out] at hv6 ⊢
        have T6 := Lib.hid (T5.out.trans t6 (fun _ _ => id))
        have HC6 := Lib.hid (show RowV w6 v6 Y from hv6)
        have HX6 := Lib.hid (HX5.out.turn t6 (fun _ _ => id))
        have HY6 := Lib.hid (HY5.out.turn t6 (fun _ _ => id))
        have HL6 := Lib.hid (HL5.out.turn t6 (fun _ _ => id))
        clear hv6 t6
        go_wp2_with fail
        refine (invert_any w6 _ L HL6.out (by have := HDL.out; omega)).mono ?_
        rintro r w7 ⟨v7, rfl, hv7, t7⟩
        have T7 := Lib.hid (T6.out.trans t7 (fun _ _ => id))
        have HC7 := Lib.hid (HC6.out.turn t7 (fun _ _ => id))
        have HX7 := Lib.hid (HX6.out.turn t7 (fun _ _ => id))
        have HY7 := Lib.hid (HY6.out.turn t7 (fun _ _ => id))
        have HI7 := Lib.hid hv7.row
        clear hv7 t7
        go_wp2_with fail
        refine (apply_any w7 _ _ Y (invE L) HY7.out HI7.out (by have := HLN.out; have := HDL.out; rw [show (invE L).length = L.length by simp [invE]]; omega) GY.out.kok (edok_inv HEO.out)).mono ?_
        rintro r w8 ⟨v8, rfl, hv8, t8⟩
        rw [HWB.out.1] at hv8 ⊢
        have T8 := Lib.hid (T7.out.trans t8 (fun _ _ => id))
        have HC8 := Lib.hid (HC7.out.turn t8 (fun _ _ => id))
        have HX8 := Lib.hid (HX7.out.turn t8 (fun _ _ => id))
        have HY8 := Lib.hid (HY7.out.turn t8 (fun _ _ => id))
        have HD8 := Lib.hid (show RowV w8 v8 X from hv8)
        clear hv8 t8
        go_wp2_with (go_at_call 14; refine (same_eq w8 _ _ Y HC8.out HY8.out (by have := HLN.out; omega)).mono ?_; rintro r w9 ⟨rfl, t9⟩; have T9 := Lib.hid t9; clear t9; refine still ?_)
        unfold Still
        have TA := Lib.hid (T8.out.trans T9.out (fun _ _ => id))
        have HX9 := Lib.hid (HX8.out.turn T9.out (fun _ _ => id))
        have HY9 := Lib.hid (HY8.out.turn T9.out (fun _ _ => id))
        have HD9 := Lib.hid (HD8.out.turn T9.out (fun _ _ => id))
        go_wp2_with (go_at_call 14; refine (same_eq w9 _ _ X HD9.out HX9.out (by have := HLN.out; omega)).mono ?_; rintro r w10 ⟨rfl, t9⟩; have T10 := Lib.hid t9; clear t9; refine still ?_)
        unfold Still
        have TB := Lib.hid (TA.out.trans T10.out (fun _ _ => id))
        have HX10 := Lib.hid (HX9.out.turn T10.out (fun _ _ => id))
        have HY10 := Lib.hid (HY9.out.turn T10.out (fun _ _ => id))
        by_cases hxy : X = Y
        · have hL : L = [] := HNI.out.2 hxy
          have hq0 : q = 0 := by rw [← HQ.out, hL]; rfl
          have HXY := Lib.hid (show decide (X = Y) = true from decide_eq_true hxy)
          have dq : ((q : Int) == 0) = true := by rw [hq0]; rfl
          clear hL hq0 hxy
          go_wp2_with (go_at_call 14; refine (same_any w10 _ _ X Y HX10.out HY10.out (by have := HLN.out; omega)).mono ?_; rintro r w11 ⟨rfl, t9⟩; have T11 := Lib.hid (TB.out.trans t9 (fun _ _ => id)); clear t9; rw [HXY.out]; refine still ?_)
          unfold Still
          go_wp2_with fail
          go_ret
          exact ⟨rfl, T11.out⟩
        · have hL : L ≠ [] := fun h => hxy (HNI.out.1 h)
          have hq0 : q ≠ 0 := fun h => hL (List.length_eq_zero_iff.1 (HQ.out.trans h))
          have HXY := Lib.hid (show decide (X = Y) = false from decide_eq_false hxy)
          have dq : ((q : Int) == 0) = false := by simpa using hq0
          clear hL hq0 hxy
          go_wp2_with (go_at_call 14; refine (same_any w10 _ _ X Y HX10.out HY10.out (by have := HLN.out; omega)).mono ?_; rintro r w11 ⟨rfl, t9⟩; have T11 := Lib.hid (TB.out.trans t9 (fun _ _ => id)); clear t9; rw [HXY.out]; refine still ?_)
          unfold Still
          go_wp2_with fail
          go_ret
          exact ⟨rfl, T11.out⟩
      · go_wp2_with fail
        refine (change_any w3 _ _ X n1 HX3.out GX.out (H1.out.turn T3.out) (by rw [HM.out]; omega)).mono ?_
        rintro r w4 ⟨vz, Y, rfl, hz, gz, t4⟩
        have T4 := Lib.hid (T3.out.trans t4 (fun _ _ => id))
        have HX4 := Lib.hid (HX3.out.turn t4 (fun _ _ => id))
        have HY4 := Lib.hid hz
        have GY := Lib.hid gz
        clear t4 hz gz
        have HLN := Lib.hid (show X.length ≤ 40 ∧ Y.length ≤ 40 from ⟨GX.out.len, GY.out.len⟩)
        have HDL := Lib.hid (diffE_len GX.out GY.out)
        have HEO := Lib.hid (edok_diff GX.out.good GY.out.good GX.out.kok GY.out.kok)
        have HNI := Lib.hid (diff_nil GX.out.good GY.out.good)
        obtain ⟨L, hd1, hd2⟩ := diff_leads GX.out.good GY.out.good
        rw [hd1] at HDL HEO HNI
        have HWB := Lib.hid (way_back GX.out.kok HEO.out hd2)
        have HD1 := Lib.hid hd1
        have HD2 := Lib.hid hd2
        clear hd1 hd2
        go_wp2_with fail
        refine (dif_any w4 _ _ X Y HX4.out HY4.out GX.out.kok GY.out.kok GX.out.iok GY.out.iok (by have := HLN.out; omega) (by have := HLN.out; omega)).mono ?_
        rintro r w5 ⟨v5, rfl, hv5, t5⟩
        rw [HD1.out] at hv5 ⊢
        obtain ⟨q, hq⟩ : ∃ q, L.length = q := ⟨_, rfl⟩
        obtain ⟨qa, qc, rfl⟩ : ∃ x y, v5 = .slice x q y := by rw [← hq]; exact hv5.form
        have T5 := Lib.hid (T4.out.trans t5 (fun _ _ => id))
        have HX5 := Lib.hid (HX4.out.turn t5 (fun _ _ => id))
        have HY5 := Lib.hid (HY4.out.turn t5 (fun _ _ => id))
        have HL5 := Lib.hid (show EdV w5 (.slice qa q qc) L from hv5)
        have HQ := Lib.hid hq
        clear hv5 t5 hq
        go_wp2_with fail
        refine (apply_any w5 _ _ X L HX5.out HL5.out (by have := HLN.out; have := HDL.out; omega) GX.out.kok HEO.out).mono ?_
        rintro r w6 ⟨v6, rfl, hv6, t6⟩
        rw [HD2.out] at hv6 ⊢
        have T6 := Lib.hid (T5.out.trans t6 (fun _ _ => id))
        have HC6 := Lib.hid (show RowV w6 v6 Y from hv6)
        have HX6 := Lib.hid (HX5.out.turn t6 (fun _ _ => id))
        have HY6 := Lib.hid (HY5.out.turn t6 (fun _ _ => id))
        have HL6 := Lib.hid (HL5.out.turn t6 (fun _ _ => id))
        clear hv6 t6
        go_wp2_with fail
        refine (invert_any w6 _ L HL6.out (by have := HDL.out; omega)).mono ?_
        rintro r w7 ⟨v7, rfl, hv7, t7⟩
        have T7 := Lib.hid (T6.out.trans t7 (fun _ _ => id))
        have HC7 := Lib.hid (HC6.out.turn t7 (fun _ _ => id))
        have HX7 := Lib.hid (HX6.out.turn t7 (fun _ _ => id))
        have HY7 := Lib.hid (HY6.out.turn t7 (fun _ _ => id))
        have HI7 := Lib.hid hv7.row
        clear hv7 t7
        go_wp2_with fail
        refine (apply_any w7 _ _ Y (invE L) HY7.out HI7.out (by have := HLN.out; have := HDL.out; rw [show (invE L).length = L.length by simp [invE]]; omega) GY.out.kok (edok_inv HEO.out)).mono ?_
        rintro r w8 ⟨v8, rfl, hv8, t8⟩
        rw [HWB.out.1] at hv8 ⊢
        have T8 := Lib.hid (T7.out.trans t8 (fun _ _ => id))
        have HC8 := Lib.hid (HC7.out.turn t8 (fun _ _ => id))
        have HX8 := Lib.hid (HX7.out.turn t8 (fun _ _ => id))
        have HY8 := Lib.hid (HY7.out.turn t8 (fun _ _ => id))
        have HD8 := Lib.hid (show RowV w8 v8 X from hv8)
        clear hv8 t8
        go_wp2_with (go_at_call 14; refine (same_eq w8 _ _ Y HC8.out HY8.out (by have := HLN.out; omega)).mono ?_; rintro r w9 ⟨rfl, t9⟩; have T9 := Lib.hid t9; clear t9; refine still ?_)
        unfold Still
        have TA := Lib.hid (T8.out.trans T9.out (fun _ _ => id))
        have HX9 := Lib.hid (HX8.out.turn T9.out (fun _ _ => id))
        have HY9 := Lib.hid (HY8.out.turn T9.out (fun _ _ => id))
        have HD9 := Lib.hid (HD8.out.turn T9.out (fun _ _ => id))
        go_wp2_with (go_at_call 14; refine (same_eq w9 _ _ X HD9.out HX9.out (by have := HLN.out; omega)).mono ?_; rintro r w10 ⟨rfl, t9⟩; have T10 := Lib.hid t9; clear t9; refine still ?_)
        unfold Still
        have TB := Lib.hid (TA.out.trans T10.out (fun _ _ => id))
        have HX10 := Lib.hid (HX9.out.turn T10.out (fun _ _ => id))
        have HY10 := Lib.hid (HY9.out.turn T10.out (fun _ _ => id))
        by_cases hxy : X = Y
        · have hL : L = [] := HNI.out.2 hxy
          have hq0 : q = 0 := by rw [← HQ.out, hL]; rfl
          have HXY := Lib.hid (show decide (X = Y) = true from decide_eq_true hxy)
          have dq : ((q : Int) == 0) = true := by rw [hq0]; rfl
          clear hL hq0 hxy
          go_wp2_with (go_at_call 14; refine (same_any w10 _ _ X Y HX10.out HY10.out (by have := HLN.out; omega)).mono ?_; rintro r w11 ⟨rfl, t9⟩; have T11 := Lib.hid (TB.out.trans t9 (fun _ _ => id)); clear t9; rw [HXY.out]; refine still ?_)
          unfold Still
          go_wp2_with fail
          go_ret
          exact ⟨rfl, T11.out⟩
        · have hL : L ≠ [] := fun h => hxy (HNI.out.1 h)
          have hq0 : q ≠ 0 := fun h => hL (List.length_eq_zero_iff.1 (HQ.out.trans h))
          have HXY := Lib.hid (show decide (X = Y) = false from decide_eq_false hxy)
          have dq : ((q : Int) == 0) = false := by simpa using hq0
          clear hL hq0 hxy
          go_wp2_with (go_at_call 14; refine (same_any w10 _ _ X Y HX10.out HY10.out (by have := HLN.out; omega)).mono ?_; rintro r w11 ⟨rfl, t9⟩; have T11 := Lib.hid (TB.out.trans t9 (fun _ _ => id)); clear t9; rw [HXY.out]; refine still ?_)
          unfold Still
          go_wp2_with fail
          go_ret
          exact ⟨rfl, T11.out⟩

end Go.Proofs.Ytkciaafkhpjnaaa
