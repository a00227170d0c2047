/- Own contracts: what the law of puts does. No statement is proved here. -/
import Derived.Test.YtokjlhpkjebnkaaPm
import Derived.Deep.CutRange
namespace Go.Proofs.Ytokjlhpkjebnkaa
set_option maxRecDepth 100000
open Go.RowKit
set_option linter.unusedVariables false
set_option linter.unusedSimpArgs false

def PutR (w3 : World) (X : Nat) (w4 : World) : Prop := ∃ E : El, w4.heap[X]? = some (.cells E.vals.toArray 24 (0, 0)) ∧ Turn (fun q => q = X) w3 w4

set_option maxHeartbeats 16000000 in
theorem puts_law (w : World) (v : Value) (l : List El) (e : El) (at' : Int) (there : Bool) (hv : RowV w v l) (hat : 0 ≤ at' ∧ at' < 256) (hl : l.length ≤ 9223372036854775807) : Calls Try.prog 3 #[v, .agg e.vals.toArray, .int .u8 at', .bool there] w fun r w' => r = .returned (.bool true) ∧ Turn (fun _ => False) w w' := by
  obtain ⟨la, lc, rfl⟩ := hv.form
  obtain ⟨n, hn⟩ : ∃ n, l.length = n := ⟨_, rfl⟩
  rw [hn] at hv hl
  simp only [hn]
  have hbx := box_alloc w 24 e.vals
  obtain ⟨w1, hw1⟩ : ∃ w1, w.alloc (.cells e.vals.toArray 24) = w1 := ⟨_, rfl⟩
  rw [hw1] at hbx
  obtain ⟨X, hX⟩ : ∃ X, w.heap.size = X := ⟨_, rfl⟩
  have hxh := hbx.heap
  have hxs := hbx.size
  rw [hX] at hxh hxs
  have HB := Lib.hid hbx
  have HXH := Lib.hid hxh
  have HXS := Lib.hid hxs
  have HXE := Lib.hid hX
  have HV := Lib.hid hv
  have HN := Lib.hid hn
  clear hbx hv hn hxh hxs
  go_enter Try.func3, Try.ntmps3
  go_wp2_with fail
  clear hw1 hX
  refine (awake09 w1).mono ?_
  rintro r w2 ⟨rfl, t2⟩
  have T2 := Lib.hid (HB.out.turn.trans t2 (fun _ _ => id))
  have U2 := Lib.hid t2
  clear t2
  by_cases hbig : 30 < n
  · have d0 : decide (30 < (n : Int)) = true := decide_eq_true (by omega)
    go_wp2_with fail
    refine (awake09 w2).mono ?_
    rintro r w3 ⟨rfl, t3⟩
    have T3 := Lib.hid (T2.out.trans t3 (fun _ _ => id))
    clear t3
    go_wp2_with fail
    go_ret
    exact ⟨rfl, T3.out⟩
  have d0 : decide (30 < (n : Int)) = false := decide_eq_false (by omega)
  go_wp2_with fail
  refine (rise_any w2 _ l (HV.out.turn T2.out (fun _ _ => id)) (by rw [HN.out]; omega)).mono ?_
  rintro r w3 ⟨vc, rfl, ho3, t3⟩
  obtain ⟨ca, cc, hvc⟩ := own_slice24 ho3
  subst hvc
  obtain ⟨C, hC⟩ : ∃ C, riseE l = C := ⟨_, rfl⟩
  have hlen := riseE_len l
  have hrc := rises_riseE l
  rw [hC] at ho3 hlen hrc
  rw [hC]
  obtain ⟨m, hm⟩ : ∃ m, C.length = m := ⟨_, rfl⟩
  have hC3 := own_rowV ho3
  rw [hm] at ho3 hC3 ⊢
  have hm30 : m ≤ 30 := by have := HN.out; omega
  have hXlt : Hid (∀ q, (Value.slice ca m cc).ownBlock = some q → q ≠ X) := fun q hq => by
    have := (ho3.lt q hq).1
    have := U2.out.size
    have := HXS.out
    omega
  have HO3 := Lib.hid ho3
  have HC3 := Lib.hid hC3
  have HCL := Lib.hid hm
  have HRC := Lib.hid hrc
  have HX3 := Lib.hid (((U2.out.trans t3 (fun _ _ => id)).block X (by rw [HXS.out]; omega) id).trans HXH.out)
  have T3 := Lib.hid (T2.out.trans t3 (fun _ _ => id))
  clear ho3 t3 hlen hrc hm hC hC3
  obtain ⟨bb, hbb⟩ : ∃ b, (there && decide (0 < m)) = b := ⟨_, rfl⟩
  have HBB := Lib.hid hbb
  clear hbb
  go_upto_region 4 with fail
  go_cut [33] from 28 (fun v wx => v = .bool bb ∧ wx = w3)
  case first =>
    have hbb := HBB.out
    subst hbb
    cases there
    · go_wp2_with fail
      go_meet
      exact ⟨rfl, rfl⟩
    · by_cases hz : 0 < m
      · have dm : decide ((0 : Int) < (m : Int)) = true := decide_eq_true (by omega)
        have dn : decide (0 < m) = true := decide_eq_true hz
        go_wp2_with fail
        go_meet
        exact ⟨by rw [dn]; rfl, rfl⟩
      · have dm : decide ((0 : Int) < (m : Int)) = false := decide_eq_false (by omega)
        have dn : decide (0 < m) = false := decide_eq_false hz
        go_wp2_with fail
        go_meet
        exact ⟨by rw [dn]; rfl, rfl⟩
  case rest =>
  obtain ⟨rfl, hwc⟩ := hcut
  subst hwc
  go_upto_if 33 with fail
  go_cut [] from 28 (fun wx => PutR wc X wx)
  case first =>
    cases bb
    · go_wp2_with fail
      go_meet
      exact ⟨e, HX3.out, Turn.refl _ _⟩
    · have hm0 : 0 < m := by have := HBB.out; simp only [Bool.and_eq_true, decide_eq_true_eq] at this; exact this.2
      obtain ⟨i, hi⟩ : ∃ i : Nat, at' % (m : Int) = (i : Int) := ⟨(at' % (m : Int)).toNat, by have := Int.emod_nonneg at' (show (m : Int) ≠ 0 by omega); omega⟩
      have him : i < m := by have := Int.emod_lt_of_pos at' (show (0 : Int) < (m : Int) by omega); omega
      obtain ⟨g, o, rfl, hgc, hs1⟩ := HC3.out.one HCL.out i him
      have gi : (0 : Int) ≤ (i : Int) ∧ (i : Int) < (m : Int) := by omega
      have dm : decide ((0 : Int) < (m : Int)) = true := decide_eq_true (by omega)
      have hm1 : ((m : Int) == 0) = false := by simp; omega
      obtain ⟨x, hx⟩ : ∃ x, C.getD i el0 = x := ⟨_, rfl⟩
      rw [hx] at hs1
      have c1 := range0 hs1
      have c2 := cell_of_row wc X 0 _ 24 (0, 0) HX3.out
      have g2 := frozen_of_row wc X 0 _ 24 HX3.out
      have c3 : wc.cell? ⟨X, 0, none⟩ = some (.int .i64 e.id) := by rw [c2]; rfl
      obtain ⟨E, hE⟩ : ∃ E : El, { e with id := x.id } = E := ⟨_, rfl⟩
      have hEv : e.vals.toArray.setIfInBounds 0 (.int .i64 x.id) = E.vals.toArray := by rw [← hE]; rfl
      have hX4 := heap_setCell_same wc X 0 e.vals.toArray 24 (.int .i64 x.id) HX3.out
      rw [hEv] at hX4
      have t4 : Turn (fun q => q = X) wc (wc.setCell ⟨X, 0, none⟩ (.int .i64 x.id)) := (Turn.refl (fun q => q = X) wc).setCell (p := ⟨X, 0, none⟩) (fun _ => rfl) _
      clear c2 hE hEv hs1 hx
      have HX4 := Lib.hid hX4
      have HT4 := Lib.hid t4
      clear hX4 t4
      go_wp2_with fail
      go_meet
      exact ⟨E, HX4.out, HT4.out⟩
  case rest =>
  obtain ⟨E, hX4, t4⟩ := hcut
  have hoC := t4.owns HO3.out (fun q hq e => hXlt q hq e)
  have HXB := Lib.hid hX4
  have HC := Lib.hid (show wc.ownsRow w2.heap.size 24 10 (.slice ca m cc) C.length (elsV C) from by rw [HCL.out]; exact hoC)
  have HT := Lib.hid (T3.out.trans t4 (fun q hq h => by have := HXE.out; omega))
  clear hX4 t4 hoC
  obtain ⟨vw, w5, hr5, ho5, t5⟩ := app_els wc wc.heap.size 26 26 Try.underlying26 (.slice none 0 0) _ [] C (World.ownsRow_nil _ _ _ _) (own_rowV HC.out) (Nat.le_refl _) (by have := HCL.out; simp only [List.length_nil]; omega)
  have t5' : Turn (fun _ => False) wc w5 := t5.mono (fun k _ h => by cases h)
  obtain ⟨aw, cw, hvw⟩ := own_slice24 ho5
  subst hvw
  have HR5 := Lib.hid hr5
  have HW5 := Lib.hid (own_rowV ho5)
  have U5 := Lib.hid t5'
  clear hr5 ho5 t5 t5'
  go_wp2_with (with_reducible (show wpList _ _ _ (Oper.mk (some 45) _ _ _ _ _ :: _) _ _); refine still ?_)
  refine list_exec rfl _ _ (exec_append _ _ (.const (.slice none 0 0)) (.tmp 44) 26 rfl _ _ _ _ _ rfl rfl HR5.out) ?_
  go_wp2_with (with_reducible (show wpList _ _ _ (Oper.mk (some 47) (.load 24 (.tmp 5)) _ _ _ _ :: _) _ _); refine still ?_)
  refine wpList_load_mid rfl 24 (.tmp 5) rfl X 0 rfl E.vals _ (rangeAt_turn (range_of HXB.out) U5.out id) Try.underlying24 rfl el_info ?_
  go_wp2_with fail
  refine (put_any w5 _ C E ((own_rowV HC.out).turn U5.out (fun _ _ => id)) HRC.out (by rw [HCL.out]; omega)).mono ?_
  rintro r w6 ⟨vd, rfl, ho6, t6⟩
  obtain ⟨ad, cd, hvd⟩ := own_slice24 ho6
  subst hvd
  have HD6 := Lib.hid (own_rowV ho6)
  have U6 := Lib.hid t6
  clear ho6 t6
  have hDL := Lib.hid (show (putE C E).length ≤ 31 from by have := putE_len1 HRC.out E; have := HCL.out; omega)
  have z6 := ((U5.out).trans U6.out (fun _ _ => id)).cells_at (range0 (range_of HXB.out))
  go_wp2_with fail
  refine (find_any w6 _ (putE C E) E.id HD6.out (HRC.out.put E) (by have := hDL.out; omega)).mono ?_
  rintro r w7 ⟨p7, hp7, rfl, t7⟩
  have hq7 := find_put HRC.out E hp7
  rw [hq7.1, hq7.2]
  have U7 := Lib.hid t7
  clear hp7 t7 hq7 z6
  have hba := box_alloc w7 24 el0.vals
  obtain ⟨Ba, hBa⟩ : ∃ B, w7.heap.size = B := ⟨_, rfl⟩
  obtain ⟨wza, hwa⟩ : ∃ wz, w7.alloc (.cells el0.vals.toArray 24) = wz := ⟨_, rfl⟩
  have hxa : ∀ ev op, op.op = .alloc 24 → (execOp ev op).run Try.prog w7 = .ok (.value (.pointer (some ⟨Ba, 0, none⟩))) wza := fun ev op ho => by rw [← hwa, ← hBa]; exact exec_zero24 ev op ho _
  rw [hwa] at hba
  have hha := hba.heap
  rw [hBa] at hha
  have HBa := Lib.hid hba
  have HSa := Lib.hid hBa
  have HXa := Lib.hid hxa
  have HH0a := Lib.hid hha
  clear hba hBa hwa hxa hha
  go_wp2_with (with_reducible (show wpList _ _ _ (Oper.mk (some 12) (.alloc 24) _ _ _ _ :: _) _ _); refine still ?_)
  refine list_exec rfl _ _ (HXa.out _ _ rfl) ?_
  go_wp2_with (with_reducible (show wpList _ _ _ (Oper.mk none (.store 24 (.tmp 12) (.tmp 54)) _ _ _ _ :: _) _ _); refine still ?_)
  refine list_put wza Ba 24 el0.vals E.vals HH0a.out rfl E.vals_one el_info rfl (.tmp 12) (.tmp 54) rfl rfl rfl (fun wa hh tt => ?_)
  have HHa := Lib.hid hh
  have TTa := Lib.hid (HBa.out.turn.trans tt (fun q hq e => by have := HSa.out; omega))
  clear hh tt
  have z7 := ((((U5.out).trans U6.out (fun _ _ => id)).trans U7.out (fun _ _ => id)).trans TTa.out (fun _ _ => id)).cells_at (range0 (range_of HXB.out))
  go_wp2_with fail
  refine (find_any wa _ C E.id ((own_rowV HC.out).turn ((((U5.out).trans U6.out (fun _ _ => id)).trans U7.out (fun _ _ => id)).trans TTa.out (fun _ _ => id)) (fun _ _ => id)) HRC.out (by have := HCL.out; omega)).mono ?_
  rintro r w8 ⟨p8, hp8, rfl, t8⟩
  have HP8 := Lib.hid hp8
  have TA8 := Lib.hid t8
  obtain ⟨Y, hY⟩ : ∃ Y, findX C E.id p8 = Y := ⟨_, rfl⟩
  obtain ⟨is, his⟩ : ∃ b, thereB C E.id p8 = b := ⟨_, rfl⟩
  rw [hY, his]
  have HY := Lib.hid hY
  have HIS := Lib.hid his
  clear hp8 t8 hY his z7
  have hbb := box_alloc w8 24 el0.vals
  obtain ⟨Bb, hBb⟩ : ∃ B, w8.heap.size = B := ⟨_, rfl⟩
  obtain ⟨wzb, hwb⟩ : ∃ wz, w8.alloc (.cells el0.vals.toArray 24) = wz := ⟨_, rfl⟩
  have hxb : ∀ ev op, op.op = .alloc 24 → (execOp ev op).run Try.prog w8 = .ok (.value (.pointer (some ⟨Bb, 0, none⟩))) wzb := fun ev op ho => by rw [← hwb, ← hBb]; exact exec_zero24 ev op ho _
  rw [hwb] at hbb
  have hhb := hbb.heap
  rw [hBb] at hhb
  have HBb := Lib.hid hbb
  have HSb := Lib.hid hBb
  have HXb := Lib.hid hxb
  have HH0b := Lib.hid hhb
  clear hbb hBb hwb hxb hhb
  go_wp2_with (with_reducible (show wpList _ _ _ (Oper.mk (some 14) (.alloc 24) _ _ _ _ :: _) _ _); refine still ?_)
  refine list_exec rfl _ _ (HXb.out _ _ rfl) ?_
  go_wp2_with (with_reducible (show wpList _ _ _ (Oper.mk none (.store 24 (.tmp 14) (.tmp 61)) _ _ _ _ :: _) _ _); refine still ?_)
  refine list_put wzb Bb 24 el0.vals Y.vals HH0b.out rfl Y.vals_one el_info rfl (.tmp 14) (.tmp 61) rfl rfl rfl (fun wb hh tt => ?_)
  have HHb := Lib.hid hh
  have TTb := Lib.hid (HBb.out.turn.trans tt (fun q hq e => by have := HSb.out; omega))
  clear hh tt
  have z8 := ((((((U5.out).trans U6.out (fun _ _ => id)).trans U7.out (fun _ _ => id)).trans TTa.out (fun _ _ => id)).trans TA8.out (fun _ _ => id)).trans TTb.out (fun _ _ => id)).cells_at (range0 (range_of HXB.out))
  go_wp2_with fail
  refine (rfind_any wb _ C E.id ((own_rowV HC.out).turn ((((((U5.out).trans U6.out (fun _ _ => id)).trans U7.out (fun _ _ => id)).trans TTa.out (fun _ _ => id)).trans TA8.out (fun _ _ => id)).trans TTb.out (fun _ _ => id)) (fun _ _ => id)) (by have := HCL.out; omega)).mono ?_
  rintro r w9 ⟨hidx, rfl⟩
  have HIDX := Lib.hid hidx
  obtain ⟨i, rfl, hi⟩ : ∃ i : Int, r = .returned (.int .i64 i) ∧ ((∃ k : Nat, k < C.length ∧ (C.getD k el0).id = E.id ∧ i = (k : Int)) ∨ ((∀ j, j < C.length → (C.getD j el0).id ≠ E.id) ∧ i = -1)) := by
    rcases HIDX.out with ⟨k, h1, h2, _, h4⟩ | ⟨h1, h2⟩
    · exact ⟨_, h4, .inl ⟨k, h1, h2, rfl⟩⟩
    · exact ⟨_, h2, .inr ⟨h1, rfl⟩⟩
  have HI := Lib.hid hi
  clear hidx hi
  go_wp2_with fail
  refine (drop_any wb _ C E.id ((own_rowV HC.out).turn ((((((U5.out).trans U6.out (fun _ _ => id)).trans U7.out (fun _ _ => id)).trans TTa.out (fun _ _ => id)).trans TA8.out (fun _ _ => id)).trans TTb.out (fun _ _ => id)) (fun _ _ => id)) HRC.out (by have := HCL.out; omega)).mono ?_
  rintro r wf ⟨vf, rfl, hof, tf⟩
  obtain ⟨af, cf, hvf⟩ := own_slice24 hof
  subst hvf
  have HFf := Lib.hid (own_rowV hof)
  have Uf := Lib.hid tf
  clear hof tf z8
  have TF := Lib.hid (((((((U5.out).trans U6.out (fun _ _ => id)).trans U7.out (fun _ _ => id)).trans TTa.out (fun _ _ => id)).trans TA8.out (fun _ _ => id)).trans TTb.out (fun _ _ => id)).trans Uf.out (fun _ _ => id))
  have HCf := Lib.hid ((own_rowV HC.out).turn TF.out (fun _ _ => id))
  have HYf := Lib.hid (rangeAt_turn (range_of HHb.out) Uf.out id)
  have HAf := Lib.hid (rangeAt_turn (range_of HHa.out) (((TA8.out).trans TTb.out (fun _ _ => id)).trans Uf.out (fun _ _ => id)) id)
  have HEf := Lib.hid (rangeAt_turn (range_of HXB.out) TF.out id)
  have HDf := Lib.hid (HD6.out.turn (((((U7.out).trans TTa.out (fun _ _ => id)).trans TA8.out (fun _ _ => id)).trans TTb.out (fun _ _ => id)).trans Uf.out (fun _ _ => id)) (fun _ _ => id))
  have HWf := Lib.hid (HW5.out.turn ((((((U6.out).trans U7.out (fun _ _ => id)).trans TTa.out (fun _ _ => id)).trans TA8.out (fun _ _ => id)).trans TTb.out (fun _ _ => id)).trans Uf.out (fun _ _ => id)) (fun _ _ => id))
  clear HBa HSa HXa HH0a HBb HSb HXb HH0b
  go_upto_region 12 with fail
  go_cut [94] from 71 (fun v wx => v = .bool false ∧ wx = wf.drew)
  case first =>
    rcases HI.out with ⟨k, hk1, hk2, rfl⟩ | ⟨hk1, rfl⟩
    · obtain ⟨rfl, hth⟩ := place_found HRC.out HP8.out hk1 hk2
      have hist : is = true := by rw [← HIS.out]; exact hth
      subst hist
      have hYk : Y = C.getD p8 el0 := by rw [← HY.out]; unfold findX; rw [hth, if_pos rfl]
      obtain ⟨g, o, hga, hgc, hs1⟩ := HCf.out.one HCL.out p8 (by rw [← HCL.out]; exact hk1)
      rw [← hYk] at hs1
      have gk : (0 : Int) ≤ (p8 : Int) ∧ (p8 : Int) < (m : Int) := by have := HCL.out; omega
      have dk : decide ((0 : Int) ≤ (p8 : Int)) = true := decide_eq_true (by omega)
      clear hk1 hk2 hYk hth
      refine wp_region_held_drew (S := fun wq => wq.rangeAt Bb 0 Y.vals ∧ wq.rangeAt g (o + p8 * 10) Y.vals) (by kernel_rfl) ⟨HYf.out, hs1⟩ (fun hHeld => ?_)
      refine wpAnyH_take (i := 0) (v := .bool true) rfl (by kernel_rfl) (by kernel_rfl) (by kernel_rfl) (fun _ _ _ h => h) (Or.inl ⟨by rfl, ?yq1⟩) (by assumption) ?rq1
      case yq1 => (intro wq hSw; (try simp only [List.getElem_toArray, List.getElem_cons_zero, List.getElem_cons_succ]); go_simp; (try with_reducible rfl); all_goals (try omega))
      case rq1 =>
      try simp only [Act.put, List.setIfInBounds_toArray, List.set_cons_zero, List.set_cons_succ, List.getElem_toArray, List.getElem_cons_zero, List.getElem_cons_succ]
      refine wpAnyH_take (i := 1) (v := .int .i64 (p8 : Int)) rfl (by kernel_rfl) (by kernel_rfl) (by kernel_rfl) (fun _ _ _ h => h) (Or.inl ⟨by rfl, ?yq2⟩) (by assumption) ?rq2
      case yq2 => (intro wq hSw; (try simp only [List.getElem_toArray, List.getElem_cons_zero, List.getElem_cons_succ]); go_simp; (try with_reducible rfl); all_goals (try omega))
      case rq2 =>
      try simp only [Act.put, List.setIfInBounds_toArray, List.set_cons_zero, List.set_cons_succ, List.getElem_toArray, List.getElem_cons_zero, List.getElem_cons_succ]
      refine wpAnyH_take (i := 2) (v := .bool true) rfl (by kernel_rfl) (by kernel_rfl) (by kernel_rfl) (fun _ _ _ h => h) (Or.inl ⟨by rfl, ?yq3⟩) (by assumption) ?rq3
      case yq3 => (intro wq hSw; (try simp only [List.getElem_toArray, List.getElem_cons_zero, List.getElem_cons_succ]); go_simp; (try with_reducible rfl); all_goals (try omega))
      case rq3 =>
      try simp only [Act.put, List.setIfInBounds_toArray, List.set_cons_zero, List.set_cons_succ, List.getElem_toArray, List.getElem_cons_zero, List.getElem_cons_succ]
      refine wpAnyH_take (i := 3) (v := .bool false) rfl (by kernel_rfl) (by kernel_rfl) (by kernel_rfl) (fun _ _ _ h => h) (Or.inl ⟨by rfl, ?yq4⟩) (by assumption) ?rq4
      case yq4 => (intro wq hSw; (try simp only [List.getElem_toArray, List.getElem_cons_zero, List.getElem_cons_succ]); go_simp; (try with_reducible rfl); all_goals (try omega))
      case rq4 =>
      try simp only [Act.put, List.setIfInBounds_toArray, List.set_cons_zero, List.set_cons_succ, List.getElem_toArray, List.getElem_cons_zero, List.getElem_cons_succ]
      refine wpAnyH_take (i := 4) (v := .bool false) rfl (by kernel_rfl) (by kernel_rfl) (by kernel_rfl) (fun _ _ _ h => h) (Or.inl ⟨by rfl, ?yq5⟩) (by assumption) ?rq5
      case yq5 => (intro wq hSw; (try simp only [List.getElem_toArray, List.getElem_cons_zero, List.getElem_cons_succ]); go_simp; (try with_reducible rfl); all_goals (try omega))
      case rq5 =>
      try simp only [Act.put, List.setIfInBounds_toArray, List.set_cons_zero, List.set_cons_succ, List.getElem_toArray, List.getElem_cons_zero, List.getElem_cons_succ]
      refine wpAnyH_take (i := 5) (v := .bool true) rfl (by kernel_rfl) (by kernel_rfl) (by kernel_rfl) (fun _ _ _ h => h) (Or.inl ⟨by rfl, ?yq6⟩) (by assumption) ?rq6
      case yq6 => (intro wq hSw; (try simp only [List.getElem_toArray, List.getElem_cons_zero, List.getElem_cons_succ]); go_simp; (try with_reducible rfl); all_goals (try omega))
      case rq6 =>
      try simp only [Act.put, List.setIfInBounds_toArray, List.set_cons_zero, List.set_cons_succ, List.getElem_toArray, List.getElem_cons_zero, List.getElem_cons_succ]
      refine wpAnyH_take (i := 6) (v := .bool true) rfl (by kernel_rfl) (by kernel_rfl) (by kernel_rfl) (fun _ _ _ h => h) (Or.inl ⟨by rfl, ?yq7⟩) (by assumption) ?rq7
      case yq7 => (intro wq hSw; (try simp only [List.getElem_toArray, List.getElem_cons_zero, List.getElem_cons_succ]); go_simp; (try with_reducible rfl); all_goals (try omega))
      case rq7 =>
      try simp only [Act.put, List.setIfInBounds_toArray, List.set_cons_zero, List.set_cons_succ, List.getElem_toArray, List.getElem_cons_zero, List.getElem_cons_succ]
      refine wpAnyH_take (i := 7) (v := .agg Y.vals.toArray) rfl (by kernel_rfl) (by kernel_rfl) (by kernel_rfl) (fun _ _ _ h => h) (Or.inl ⟨by rfl, ?yq8⟩) (by assumption) ?rq8
      case yq8 => (intro wq hSw; exact exec_load_mid _ _ 24 (.tmp 14) rfl Bb 0 rfl Y.vals _ _ hSw.1 Try.underlying24 rfl el_info)
      case rq8 =>
      try simp only [Act.put, List.setIfInBounds_toArray, List.set_cons_zero, List.set_cons_succ, List.getElem_toArray, List.getElem_cons_zero, List.getElem_cons_succ]
      refine wpAnyH_take (i := 8) (v := .slice ca m cc) rfl (by kernel_rfl) (by kernel_rfl) (by kernel_rfl) (fun _ _ _ h => h) (Or.inl ⟨by rfl, ?yq9⟩) (by assumption) ?rq9
      case yq9 => (intro wq hSw; clear hga; (try simp only [List.getElem_toArray, List.getElem_cons_zero, List.getElem_cons_succ]); go_simp; (try with_reducible rfl))
      case rq9 =>
      try simp only [Act.put, List.setIfInBounds_toArray, List.set_cons_zero, List.set_cons_succ, List.getElem_toArray, List.getElem_cons_zero, List.getElem_cons_succ]
      refine wpAnyH_take (i := 9) (v := .int .i64 (p8 : Int)) rfl (by kernel_rfl) (by kernel_rfl) (by kernel_rfl) (fun _ _ _ h => h) (Or.inl ⟨by rfl, ?yq10⟩) (by assumption) ?rq10
      case yq10 => (intro wq hSw; (try simp only [List.getElem_toArray, List.getElem_cons_zero, List.getElem_cons_succ]); go_simp; (try with_reducible rfl); all_goals (try omega))
      case rq10 =>
      try simp only [Act.put, List.setIfInBounds_toArray, List.set_cons_zero, List.set_cons_succ, List.getElem_toArray, List.getElem_cons_zero, List.getElem_cons_succ]
      refine wpAnyH_take (i := 10) (v := .pointer (some ⟨g, o + p8 * 10, none⟩)) rfl (by kernel_rfl) (by kernel_rfl) (by kernel_rfl) (fun _ _ _ h => h) (Or.inl ⟨by rfl, ?yq11⟩) (by assumption) ?rq11
      case yq11 => (intro wq hSw; (try simp only [List.getElem_toArray, List.getElem_cons_zero, List.getElem_cons_succ]); go_simp; (try with_reducible rfl); all_goals (try omega))
      case rq11 =>
      try simp only [Act.put, List.setIfInBounds_toArray, List.set_cons_zero, List.set_cons_succ, List.getElem_toArray, List.getElem_cons_zero, List.getElem_cons_succ]
      refine wpAnyH_take (i := 11) (v := .agg Y.vals.toArray) rfl (by kernel_rfl) (by kernel_rfl) (by kernel_rfl) (fun _ _ _ h => h) (Or.inl ⟨by rfl, ?yq12⟩) (by assumption) ?rq12
      case yq12 => (intro wq hSw; exact exec_load_mid _ _ 24 (.tmp 81) rfl g (o + p8 * 10) rfl Y.vals _ _ hSw.2 Try.underlying24 rfl el_info)
      case rq12 =>
      try simp only [Act.put, List.setIfInBounds_toArray, List.set_cons_zero, List.set_cons_succ, List.getElem_toArray, List.getElem_cons_zero, List.getElem_cons_succ]
      refine wpAnyH_take (i := 12) (v := .bool false) rfl (by kernel_rfl) (by kernel_rfl) (by kernel_rfl) (fun _ _ _ h => h) (Or.inl ⟨by rfl, ?yq13⟩) (by assumption) ?rq13
      case yq13 => (intro wq hSw; exact exec_neq_same _ _ rfl Y wq rfl rfl)
      case rq13 =>
      try simp only [Act.put, List.setIfInBounds_toArray, List.set_cons_zero, List.set_cons_succ, List.getElem_toArray, List.getElem_cons_zero, List.getElem_cons_succ]
      refine wpAnyH_take (i := 13) (v := .bool false) rfl (by kernel_rfl) (by kernel_rfl) (by kernel_rfl) (fun _ _ _ h => h) (Or.inl ⟨by rfl, ?yq14⟩) (by assumption) ?rq14
      case yq14 => (intro wq hSw; (try simp only [List.getElem_toArray, List.getElem_cons_zero, List.getElem_cons_succ]); go_simp; (try with_reducible rfl); all_goals (try omega))
      case rq14 =>
      try simp only [Act.put, List.setIfInBounds_toArray, List.set_cons_zero, List.set_cons_succ, List.getElem_toArray, List.getElem_cons_zero, List.getElem_cons_succ]
      refine wpAnyH_take (i := 14) (v := .bool false) rfl (by kernel_rfl) (by kernel_rfl) (by kernel_rfl) (fun _ _ _ h => h) (Or.inl ⟨by rfl, ?yq15⟩) (by assumption) ?rq15
      case yq15 => (intro wq hSw; (try simp only [List.getElem_toArray, List.getElem_cons_zero, List.getElem_cons_succ]); go_simp; (try with_reducible rfl); all_goals (try omega))
      case rq15 =>
      try simp only [Act.put, List.setIfInBounds_toArray, List.set_cons_zero, List.set_cons_succ, List.getElem_toArray, List.getElem_cons_zero, List.getElem_cons_succ]
      refine wpAnyH_take (i := 15) (v := .bool false) rfl (by kernel_rfl) (by kernel_rfl) (by kernel_rfl) (fun _ _ _ h => h) (Or.inl ⟨by rfl, ?yq16⟩) (by assumption) ?rq16
      case yq16 => (intro wq hSw; (try simp only [List.getElem_toArray, List.getElem_cons_zero, List.getElem_cons_succ]); go_simp; (try with_reducible rfl); all_goals (try omega))
      case rq16 =>
      try simp only [Act.put, List.setIfInBounds_toArray, List.set_cons_zero, List.set_cons_succ, List.getElem_toArray, List.getElem_cons_zero, List.getElem_cons_succ]
      refine wpAnyH_take (i := 16) (v := .bool true) rfl (by kernel_rfl) (by kernel_rfl) (by kernel_rfl) (fun _ _ _ h => h) (Or.inl ⟨by rfl, ?yq17⟩) (by assumption) ?rq17
      case yq17 => (intro wq hSw; (try simp only [List.getElem_toArray, List.getElem_cons_zero, List.getElem_cons_succ]); go_simp; (try with_reducible rfl); all_goals (try omega))
      case rq17 =>
      try simp only [Act.put, List.setIfInBounds_toArray, List.set_cons_zero, List.set_cons_succ, List.getElem_toArray, List.getElem_cons_zero, List.getElem_cons_succ]
      refine wpAnyH_take (i := 17) (v := .bool false) rfl (by kernel_rfl) (by kernel_rfl) (by kernel_rfl) (fun _ _ _ h => h) (Or.inl ⟨by rfl, ?yq18⟩) (by assumption) ?rq18
      case yq18 => (intro wq hSw; (try simp only [List.getElem_toArray, List.getElem_cons_zero, List.getElem_cons_succ]); go_simp; (try with_reducible rfl); all_goals (try omega))
      case rq18 =>
      try simp only [Act.put, List.setIfInBounds_toArray, List.set_cons_zero, List.set_cons_succ, List.getElem_toArray, List.getElem_cons_zero, List.getElem_cons_succ]
      refine wpAnyH_take (i := 18) (v := .bool false) rfl (by kernel_rfl) (by kernel_rfl) (by kernel_rfl) (fun _ _ _ h => h) (Or.inl ⟨by rfl, ?yq19⟩) (by assumption) ?rq19
      case yq19 => (intro wq hSw; (try simp only [List.getElem_toArray, List.getElem_cons_zero, List.getElem_cons_succ]); go_simp; (try with_reducible rfl); all_goals (try omega))
      case rq19 =>
      try simp only [Act.put, List.setIfInBounds_toArray, List.set_cons_zero, List.set_cons_succ, List.getElem_toArray, List.getElem_cons_zero, List.getElem_cons_succ]
      refine wpAnyH_take (i := 19) (v := undef) rfl (by kernel_rfl) (by kernel_rfl) (by kernel_rfl) (fun _ _ _ h => h) (Or.inr ⟨by rfl, rfl⟩) (by assumption) ?rq20
      case rq20 =>
      try simp only [Act.put, List.setIfInBounds_toArray, List.set_cons_zero, List.set_cons_succ, List.getElem_toArray, List.getElem_cons_zero, List.getElem_cons_succ]
      refine wpAnyH_take (i := 20) (v := undef) rfl (by kernel_rfl) (by kernel_rfl) (by kernel_rfl) (fun _ _ _ h => h) (Or.inr ⟨by rfl, rfl⟩) (by assumption) ?rq21
      case rq21 =>
      try simp only [Act.put, List.setIfInBounds_toArray, List.set_cons_zero, List.set_cons_succ, List.getElem_toArray, List.getElem_cons_zero, List.getElem_cons_succ]
      refine wpAnyH_take (i := 21) (v := undef) rfl (by kernel_rfl) (by kernel_rfl) (by kernel_rfl) (fun _ _ _ h => h) (Or.inr ⟨by rfl, rfl⟩) (by assumption) ?rq22
      case rq22 =>
      try simp only [Act.put, List.setIfInBounds_toArray, List.set_cons_zero, List.set_cons_succ, List.getElem_toArray, List.getElem_cons_zero, List.getElem_cons_succ]
      refine wpAnyH_take (i := 22) (v := .bool false) rfl (by kernel_rfl) (by kernel_rfl) (by kernel_rfl) (fun _ _ _ h => h) (Or.inl ⟨by rfl, ?yq23⟩) (by assumption) ?rq23
      case yq23 => (intro wq hSw; (try simp only [List.getElem_toArray, List.getElem_cons_zero, List.getElem_cons_succ]); go_simp; (try with_reducible rfl); all_goals (try omega))
      case rq23 =>
      try simp only [Act.put, List.setIfInBounds_toArray, List.set_cons_zero, List.set_cons_succ, List.getElem_toArray, List.getElem_cons_zero, List.getElem_cons_succ]
      refine wpAnyH_take (i := 23) (v := .bool false) rfl (by kernel_rfl) (by kernel_rfl) (by kernel_rfl) (fun _ _ _ h => h) (Or.inl ⟨by rfl, ?yq24⟩) (by assumption) ?rq24
      case yq24 => (intro wq hSw; (try simp only [List.getElem_toArray, List.getElem_cons_zero, List.getElem_cons_succ]); go_simp; (try with_reducible rfl); all_goals (try omega))
      case rq24 =>
      try simp only [Act.put, List.setIfInBounds_toArray, List.set_cons_zero, List.set_cons_succ, List.getElem_toArray, List.getElem_cons_zero, List.getElem_cons_succ]
      refine wpAnyH_done (by kernel_rfl) ?_ _
      clear hHeld hs1 hga
      go_wp2_with fail
      go_meet
      exact ⟨rfl, rfl⟩
    · have hist : is = false := by rw [← HIS.out]; exact place_none hk1
      subst hist
      have hYk : Y = el0 := by rw [← HY.out]; unfold findX; rw [HIS.out]; rfl
      subst hYk
      have dk : decide ((0 : Int) ≤ -1) = false := by decide
      clear hk1
      refine wp_region_held_drew (S := fun wq => wq.rangeAt Bb 0 el0.vals) (by kernel_rfl) HYf.out (fun hHeld => ?_)
      refine wpAnyH_take (i := 0) (v := .bool false) rfl (by kernel_rfl) (by kernel_rfl) (by kernel_rfl) (fun _ _ _ h => h) (Or.inl ⟨by rfl, ?yq25⟩) (by assumption) ?rq25
      case yq25 => (intro wq hSw; (try simp only [List.getElem_toArray, List.getElem_cons_zero, List.getElem_cons_succ]); go_simp; (try with_reducible rfl); all_goals (try omega))
      case rq25 =>
      try simp only [Act.put, List.setIfInBounds_toArray, List.set_cons_zero, List.set_cons_succ, List.getElem_toArray, List.getElem_cons_zero, List.getElem_cons_succ]
      refine wpAnyH_take (i := 1) (v := .int .i64 (-1)) rfl (by kernel_rfl) (by kernel_rfl) (by kernel_rfl) (fun _ _ _ h => h) (Or.inl ⟨by rfl, ?yq26⟩) (by assumption) ?rq26
      case yq26 => (intro wq hSw; (try simp only [List.getElem_toArray, List.getElem_cons_zero, List.getElem_cons_succ]); go_simp; (try with_reducible rfl); all_goals (try omega))
      case rq26 =>
      try simp only [Act.put, List.setIfInBounds_toArray, List.set_cons_zero, List.set_cons_succ, List.getElem_toArray, List.getElem_cons_zero, List.getElem_cons_succ]
      refine wpAnyH_take (i := 2) (v := .bool false) rfl (by kernel_rfl) (by kernel_rfl) (by kernel_rfl) (fun _ _ _ h => h) (Or.inl ⟨by rfl, ?yq27⟩) (by assumption) ?rq27
      case yq27 => (intro wq hSw; (try simp only [List.getElem_toArray, List.getElem_cons_zero, List.getElem_cons_succ]); go_simp; (try with_reducible rfl); all_goals (try omega))
      case rq27 =>
      try simp only [Act.put, List.setIfInBounds_toArray, List.set_cons_zero, List.set_cons_succ, List.getElem_toArray, List.getElem_cons_zero, List.getElem_cons_succ]
      refine wpAnyH_take (i := 3) (v := .bool false) rfl (by kernel_rfl) (by kernel_rfl) (by kernel_rfl) (fun _ _ _ h => h) (Or.inl ⟨by rfl, ?yq28⟩) (by assumption) ?rq28
      case yq28 => (intro wq hSw; (try simp only [List.getElem_toArray, List.getElem_cons_zero, List.getElem_cons_succ]); go_simp; (try with_reducible rfl); all_goals (try omega))
      case rq28 =>
      try simp only [Act.put, List.setIfInBounds_toArray, List.set_cons_zero, List.set_cons_succ, List.getElem_toArray, List.getElem_cons_zero, List.getElem_cons_succ]
      refine wpAnyH_take (i := 4) (v := .bool false) rfl (by kernel_rfl) (by kernel_rfl) (by kernel_rfl) (fun _ _ _ h => h) (Or.inl ⟨by rfl, ?yq29⟩) (by assumption) ?rq29
      case yq29 => (intro wq hSw; (try simp only [List.getElem_toArray, List.getElem_cons_zero, List.getElem_cons_succ]); go_simp; (try with_reducible rfl); all_goals (try omega))
      case rq29 =>
      try simp only [Act.put, List.setIfInBounds_toArray, List.set_cons_zero, List.set_cons_succ, List.getElem_toArray, List.getElem_cons_zero, List.getElem_cons_succ]
      refine wpAnyH_take (i := 5) (v := .bool false) rfl (by kernel_rfl) (by kernel_rfl) (by kernel_rfl) (fun _ _ _ h => h) (Or.inl ⟨by rfl, ?yq30⟩) (by assumption) ?rq30
      case yq30 => (intro wq hSw; (try simp only [List.getElem_toArray, List.getElem_cons_zero, List.getElem_cons_succ]); go_simp; (try with_reducible rfl); all_goals (try omega))
      case rq30 =>
      try simp only [Act.put, List.setIfInBounds_toArray, List.set_cons_zero, List.set_cons_succ, List.getElem_toArray, List.getElem_cons_zero, List.getElem_cons_succ]
      refine wpAnyH_take (i := 6) (v := .bool false) rfl (by kernel_rfl) (by kernel_rfl) (by kernel_rfl) (fun _ _ _ h => h) (Or.inl ⟨by rfl, ?yq31⟩) (by assumption) ?rq31
      case yq31 => (intro wq hSw; (try simp only [List.getElem_toArray, List.getElem_cons_zero, List.getElem_cons_succ]); go_simp; (try with_reducible rfl); all_goals (try omega))
      case rq31 =>
      try simp only [Act.put, List.setIfInBounds_toArray, List.set_cons_zero, List.set_cons_succ, List.getElem_toArray, List.getElem_cons_zero, List.getElem_cons_succ]
      refine wpAnyH_take (i := 7) (v := undef) rfl (by kernel_rfl) (by kernel_rfl) (by kernel_rfl) (fun _ _ _ h => h) (Or.inr ⟨by rfl, rfl⟩) (by assumption) ?rq32
      case rq32 =>
      try simp only [Act.put, List.setIfInBounds_toArray, List.set_cons_zero, List.set_cons_succ, List.getElem_toArray, List.getElem_cons_zero, List.getElem_cons_succ]
      refine wpAnyH_take (i := 8) (v := undef) rfl (by kernel_rfl) (by kernel_rfl) (by kernel_rfl) (fun _ _ _ h => h) (Or.inr ⟨by rfl, rfl⟩) (by assumption) ?rq33
      case rq33 =>
      try simp only [Act.put, List.setIfInBounds_toArray, List.set_cons_zero, List.set_cons_succ, List.getElem_toArray, List.getElem_cons_zero, List.getElem_cons_succ]
      refine wpAnyH_take (i := 9) (v := undef) rfl (by kernel_rfl) (by kernel_rfl) (by kernel_rfl) (fun _ _ _ h => h) (Or.inr ⟨by rfl, rfl⟩) (by assumption) ?rq34
      case rq34 =>
      try simp only [Act.put, List.setIfInBounds_toArray, List.set_cons_zero, List.set_cons_succ, List.getElem_toArray, List.getElem_cons_zero, List.getElem_cons_succ]
      refine wpAnyH_take (i := 10) (v := undef) rfl (by kernel_rfl) (by kernel_rfl) (by kernel_rfl) (fun _ _ _ h => h) (Or.inr ⟨by rfl, rfl⟩) (by assumption) ?rq35
      case rq35 =>
      try simp only [Act.put, List.setIfInBounds_toArray, List.set_cons_zero, List.set_cons_succ, List.getElem_toArray, List.getElem_cons_zero, List.getElem_cons_succ]
      refine wpAnyH_take (i := 11) (v := undef) rfl (by kernel_rfl) (by kernel_rfl) (by kernel_rfl) (fun _ _ _ h => h) (Or.inr ⟨by rfl, rfl⟩) (by assumption) ?rq36
      case rq36 =>
      try simp only [Act.put, List.setIfInBounds_toArray, List.set_cons_zero, List.set_cons_succ, List.getElem_toArray, List.getElem_cons_zero, List.getElem_cons_succ]
      refine wpAnyH_take (i := 12) (v := undef) rfl (by kernel_rfl) (by kernel_rfl) (by kernel_rfl) (fun _ _ _ h => h) (Or.inr ⟨by rfl, rfl⟩) (by assumption) ?rq37
      case rq37 =>
      try simp only [Act.put, List.setIfInBounds_toArray, List.set_cons_zero, List.set_cons_succ, List.getElem_toArray, List.getElem_cons_zero, List.getElem_cons_succ]
      refine wpAnyH_take (i := 13) (v := .bool false) rfl (by kernel_rfl) (by kernel_rfl) (by kernel_rfl) (fun _ _ _ h => h) (Or.inl ⟨by rfl, ?yq38⟩) (by assumption) ?rq38
      case yq38 => (intro wq hSw; (try simp only [List.getElem_toArray, List.getElem_cons_zero, List.getElem_cons_succ]); go_simp; (try with_reducible rfl); all_goals (try omega))
      case rq38 =>
      try simp only [Act.put, List.setIfInBounds_toArray, List.set_cons_zero, List.set_cons_succ, List.getElem_toArray, List.getElem_cons_zero, List.getElem_cons_succ]
      refine wpAnyH_take (i := 14) (v := .bool false) rfl (by kernel_rfl) (by kernel_rfl) (by kernel_rfl) (fun _ _ _ h => h) (Or.inl ⟨by rfl, ?yq39⟩) (by assumption) ?rq39
      case yq39 => (intro wq hSw; (try simp only [List.getElem_toArray, List.getElem_cons_zero, List.getElem_cons_succ]); go_simp; (try with_reducible rfl); all_goals (try omega))
      case rq39 =>
      try simp only [Act.put, List.setIfInBounds_toArray, List.set_cons_zero, List.set_cons_succ, List.getElem_toArray, List.getElem_cons_zero, List.getElem_cons_succ]
      refine wpAnyH_take (i := 15) (v := .bool false) rfl (by kernel_rfl) (by kernel_rfl) (by kernel_rfl) (fun _ _ _ h => h) (Or.inl ⟨by rfl, ?yq40⟩) (by assumption) ?rq40
      case yq40 => (intro wq hSw; (try simp only [List.getElem_toArray, List.getElem_cons_zero, List.getElem_cons_succ]); go_simp; (try with_reducible rfl); all_goals (try omega))
      case rq40 =>
      try simp only [Act.put, List.setIfInBounds_toArray, List.set_cons_zero, List.set_cons_succ, List.getElem_toArray, List.getElem_cons_zero, List.getElem_cons_succ]
      refine wpAnyH_take (i := 16) (v := .bool false) rfl (by kernel_rfl) (by kernel_rfl) (by kernel_rfl) (fun _ _ _ h => h) (Or.inl ⟨by rfl, ?yq41⟩) (by assumption) ?rq41
      case yq41 => (intro wq hSw; (try simp only [List.getElem_toArray, List.getElem_cons_zero, List.getElem_cons_succ]); go_simp; (try with_reducible rfl); all_goals (try omega))
      case rq41 =>
      try simp only [Act.put, List.setIfInBounds_toArray, List.set_cons_zero, List.set_cons_succ, List.getElem_toArray, List.getElem_cons_zero, List.getElem_cons_succ]
      refine wpAnyH_take (i := 17) (v := .bool true) rfl (by kernel_rfl) (by kernel_rfl) (by kernel_rfl) (fun _ _ _ h => h) (Or.inl ⟨by rfl, ?yq42⟩) (by assumption) ?rq42
      case yq42 => (intro wq hSw; (try simp only [List.getElem_toArray, List.getElem_cons_zero, List.getElem_cons_succ]); go_simp; (try with_reducible rfl); all_goals (try omega))
      case rq42 =>
      try simp only [Act.put, List.setIfInBounds_toArray, List.set_cons_zero, List.set_cons_succ, List.getElem_toArray, List.getElem_cons_zero, List.getElem_cons_succ]
      refine wpAnyH_take (i := 18) (v := .bool true) rfl (by kernel_rfl) (by kernel_rfl) (by kernel_rfl) (fun _ _ _ h => h) (Or.inl ⟨by rfl, ?yq43⟩) (by assumption) ?rq43
      case yq43 => (intro wq hSw; (try simp only [List.getElem_toArray, List.getElem_cons_zero, List.getElem_cons_succ]); go_simp; (try with_reducible rfl); all_goals (try omega))
      case rq43 =>
      try simp only [Act.put, List.setIfInBounds_toArray, List.set_cons_zero, List.set_cons_succ, List.getElem_toArray, List.getElem_cons_zero, List.getElem_cons_succ]
      refine wpAnyH_take (i := 19) (v := .agg el0.vals.toArray) rfl (by kernel_rfl) (by kernel_rfl) (by kernel_rfl) (fun _ _ _ h => h) (Or.inl ⟨by rfl, ?yq44⟩) (by assumption) ?rq44
      case yq44 => (intro wq hSw; exact exec_load_mid _ _ 24 (.tmp 14) rfl Bb 0 rfl el0.vals _ _ hSw Try.underlying24 rfl el_info)
      case rq44 =>
      try simp only [Act.put, List.setIfInBounds_toArray, List.set_cons_zero, List.set_cons_succ, List.getElem_toArray, List.getElem_cons_zero, List.getElem_cons_succ]
      refine wpAnyH_take (i := 20) (v := .agg el0.vals.toArray) rfl (by kernel_rfl) (by kernel_rfl) (by kernel_rfl) (fun _ _ _ h => h) (Or.inl ⟨by rfl, ?yq45⟩) (by assumption) ?rq45
      case yq45 => (intro wq hSw; exact exec_build24 _ _ rfl _)
      case rq45 =>
      try simp only [Act.put, List.setIfInBounds_toArray, List.set_cons_zero, List.set_cons_succ, List.getElem_toArray, List.getElem_cons_zero, List.getElem_cons_succ]
      refine wpAnyH_take (i := 21) (v := .bool false) rfl (by kernel_rfl) (by kernel_rfl) (by kernel_rfl) (fun _ _ _ h => h) (Or.inl ⟨by rfl, ?yq46⟩) (by assumption) ?rq46
      case yq46 => (intro wq hSw; exact exec_neq_same _ _ rfl el0 wq rfl rfl)
      case rq46 =>
      try simp only [Act.put, List.setIfInBounds_toArray, List.set_cons_zero, List.set_cons_succ, List.getElem_toArray, List.getElem_cons_zero, List.getElem_cons_succ]
      refine wpAnyH_take (i := 22) (v := .bool false) rfl (by kernel_rfl) (by kernel_rfl) (by kernel_rfl) (fun _ _ _ h => h) (Or.inl ⟨by rfl, ?yq47⟩) (by assumption) ?rq47
      case yq47 => (intro wq hSw; (try simp only [List.getElem_toArray, List.getElem_cons_zero, List.getElem_cons_succ]); go_simp; (try with_reducible rfl); all_goals (try omega))
      case rq47 =>
      try simp only [Act.put, List.setIfInBounds_toArray, List.set_cons_zero, List.set_cons_succ, List.getElem_toArray, List.getElem_cons_zero, List.getElem_cons_succ]
      refine wpAnyH_take (i := 23) (v := .bool false) rfl (by kernel_rfl) (by kernel_rfl) (by kernel_rfl) (fun _ _ _ h => h) (Or.inl ⟨by rfl, ?yq48⟩) (by assumption) ?rq48
      case yq48 => (intro wq hSw; (try simp only [List.getElem_toArray, List.getElem_cons_zero, List.getElem_cons_succ]); go_simp; (try with_reducible rfl); all_goals (try omega))
      case rq48 =>
      try simp only [Act.put, List.setIfInBounds_toArray, List.set_cons_zero, List.set_cons_succ, List.getElem_toArray, List.getElem_cons_zero, List.getElem_cons_succ]
      refine wpAnyH_done (by kernel_rfl) ?_ _
      clear hHeld
      go_wp2_with fail
      go_meet
      exact ⟨rfl, rfl⟩
  case rest =>
  obtain ⟨rfl, rfl⟩ := hcut
  have Ud := Lib.hid ((Turn.refl (fun _ => False) wf).drew)
  obtain ⟨wd, hwd⟩ : ∃ wd, wf.drew = wd := ⟨_, rfl⟩
  rw [hwd] at Ud ⊢
  clear hwd
  go_wp2_with (with_reducible (show wpList _ _ _ (Oper.mk (some 97) (.load 24 (.tmp 12)) _ _ _ _ :: _) _ _); refine still ?_)
  refine wpList_exec_want (by rfl) _ _ (exec_load_mid _ _ 24 (.tmp 12) rfl Ba 0 rfl E.vals _ _ (rangeAt_turn HAf.out Ud.out id) Try.underlying24 rfl el_info) ?_
  go_wp2_with (with_reducible (show wpList _ _ _ (Oper.mk (some 98) (.load 24 (.tmp 5)) _ _ _ _ :: _) _ _); refine still ?_)
  refine wpList_exec_want (by rfl) _ _ (exec_load_mid _ _ 24 (.tmp 5) rfl X 0 rfl E.vals _ _ (rangeAt_turn HEf.out Ud.out id) Try.underlying24 rfl el_info) ?_
  go_wp2_with (with_reducible (show wpList _ _ _ (Oper.mk (some 99) _ _ _ _ _ :: _) _ _); refine still ?_)
  refine wpList_exec_want (by rfl) (.bool true) _ (exec_eql_same _ _ rfl E wd rfl rfl) ?_
  go_wp2_with (with_reducible (show wpList _ _ _ (Oper.mk (some 104) (.load 24 (.tmp 5)) _ _ _ _ :: _) _ _); refine still ?_)
  refine wpList_exec_want (by rfl) _ _ (exec_load_mid _ _ 24 (.tmp 5) rfl X 0 rfl E.vals _ _ (rangeAt_turn HEf.out Ud.out id) Try.underlying24 rfl el_info) ?_
  go_wp2_with fail
  refine (rput_any wd _ C E (HCf.out.turn Ud.out (fun _ _ => id)) HRC.out (by have := HCL.out; omega)).mono ?_
  rintro r wg ⟨vg, rfl, hog, tg⟩
  obtain ⟨ag, cg, hvg⟩ := own_slice24 hog
  subst hvg
  have HGg := Lib.hid (own_rowV hog)
  have Ug := Lib.hid (Ud.out.trans tg (fun _ _ => id))
  clear hog tg
  go_wp2_with fail
  refine (same_any wg _ _ (putE C E) (putE C E) (HDf.out.turn Ug.out (fun _ _ => id)) HGg.out (by have := hDL.out; omega)).mono ?_
  rintro r wh ⟨rfl, th⟩
  rw [decide_eq_true rfl]
  have Uh := Lib.hid (Ug.out.trans th (fun _ _ => id))
  have zh := Uh.out.cells_at (range0 HEf.out)
  clear th
  go_wp2_with fail
  refine (rdrop_any wh _ C E.id (HCf.out.turn Uh.out (fun _ _ => id)) (by have := HCL.out; omega)).mono ?_
  rintro r wi ⟨vi, rfl, hoi, ti⟩
  obtain ⟨ai, ci, hvi⟩ := own_slice24 hoi
  subst hvi
  have HIi := Lib.hid (own_rowV hoi)
  have Ui := Lib.hid (Uh.out.trans ti (fun _ _ => id))
  clear hoi ti zh
  go_wp2_with fail
  refine (same_any wi _ _ (dropE C E.id) (dropE C E.id) (HFf.out.turn Ui.out (fun _ _ => id)) HIi.out (by have := HCL.out; have := dropE_len C E.id; omega)).mono ?_
  rintro r wj ⟨rfl, tj⟩
  rw [decide_eq_true rfl]
  have Uj := Lib.hid (Ui.out.trans tj (fun _ _ => id))
  clear tj
  go_wp2_with fail
  refine (same_any wj _ _ C C (HCf.out.turn Uj.out (fun _ _ => id)) (by have := HWf.out.turn Uj.out (fun _ _ => id); simpa using this) (by have := HCL.out; omega)).mono ?_
  rintro r wk ⟨rfl, tk⟩
  rw [decide_eq_true rfl]
  have Uk := Lib.hid (Uj.out.trans tk (fun _ _ => id))
  clear tk
  go_wp2_with fail
  refine (rises_any wk _ (putE C E) (HDf.out.turn Uk.out (fun _ _ => id)) (by have := hDL.out; omega)).mono ?_
  rintro r wl ⟨rfl, tl⟩
  rw [(risesB_iff _).2 (HRC.out.put E)]
  have Ul := Lib.hid (Uk.out.trans tl (fun _ _ => id))
  clear tl
  go_wp2_with fail
  refine (rises_any wl _ (dropE C E.id) (HFf.out.turn Ul.out (fun _ _ => id)) (by have := HCL.out; have := dropE_len C E.id; omega)).mono ?_
  rintro r wm ⟨rfl, tm⟩
  rw [(risesB_iff _).2 (HRC.out.drop_ E.id)]
  have Um := Lib.hid (Ul.out.trans tm (fun _ _ => id))
  clear tm
  go_wp2_with fail
  go_ret
  exact ⟨rfl, (HT.out.trans TF.out (fun _ _ => id)).trans Um.out (fun _ _ => id)⟩
end Go.Proofs.Ytokjlhpkjebnkaa
