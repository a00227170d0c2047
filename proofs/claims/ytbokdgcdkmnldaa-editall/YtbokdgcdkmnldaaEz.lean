/- Own contracts: edits: close. No statement is proved here. -/
import Derived.Test.YtbokdgcdkmnldaaEk
import Derived.Deep.RegionHeld3
namespace Go.Proofs.Ytbokdgcdkmnldaa
set_option maxRecDepth 100000
open Go.RowKit
set_option linter.unusedVariables false
set_option linter.unusedSimpArgs false

section
variable {w : World} {B : Nat} {x : Ed}
def XAt (w : World) (B : Nat) (y : Ed) : Prop := w.heap[B]? = some (.cells y.vals.toArray 28 (0, 0))
theorem ex0 {E : Int} (h : w.heap[B]? = some (.cells (x.vals.set 0 (.int .u8 E)).toArray 28 (0, 0))) : ∃ y : Ed, XAt w B y ∧ y.e.kind = x.e.kind := ⟨{ x with op := E }, h, rfl⟩
theorem ex1 {E : Int} (h : w.heap[B]? = some (.cells (x.vals.set 1 (.int .i64 E)).toArray 28 (0, 0))) : ∃ y : Ed, XAt w B y ∧ y.e.kind = x.e.kind := ⟨{ x with e := { x.e with id := E } }, h, rfl⟩
theorem ex3 {E : Int} (h : w.heap[B]? = some (.cells (x.vals.set 3 (.int .i64 E)).toArray 28 (0, 0))) : ∃ y : Ed, XAt w B y ∧ y.e.kind = x.e.kind := ⟨{ x with e := { x.e with par := E } }, h, rfl⟩
theorem ex11 {E : Int} (h : w.heap[B]? = some (.cells (x.vals.set 11 (.int .i64 E)).toArray 28 (0, 0))) : ∃ y : Ed, XAt w B y ∧ y.e.kind = x.e.kind := ⟨{ x with f := E }, h, rfl⟩
theorem ex14 {E : Int} (h : w.heap[B]? = some (.cells (x.vals.set 14 (.int .i64 E)).toArray 28 (0, 0))) : ∃ y : Ed, XAt w B y ∧ y.e.kind = x.e.kind := ⟨{ x with nn := E }, h, rfl⟩
theorem ex15 {E : ByteArray} (h : w.heap[B]? = some (.cells (x.vals.set 15 (.string E)).toArray 28 (0, 0))) : ∃ y : Ed, XAt w B y ∧ y.e.kind = x.e.kind := ⟨{ x with ns := E }, h, rfl⟩
theorem exO {n : Int} {s : ByteArray} (h : w.heap[B]? = some (.cells (x.vals.take 12 ++ vl n s ++ x.vals.drop (12 + (vl n s).length)).toArray 28 (0, 0))) : ∃ y : Ed, XAt w B y ∧ y.e.kind = x.e.kind := ⟨{ x with on := n, os := s }, h, rfl⟩
theorem exN {n : Int} {s : ByteArray} (h : w.heap[B]? = some (.cells (x.vals.take 14 ++ vl n s ++ x.vals.drop (14 + (vl n s).length)).toArray 28 (0, 0))) : ∃ y : Ed, XAt w B y ∧ y.e.kind = x.e.kind := ⟨{ x with nn := n, ns := s }, h, rfl⟩
theorem exE {e : El} (h : w.heap[B]? = some (.cells (x.vals.take 1 ++ e.vals ++ x.vals.drop (1 + e.vals.length)).toArray 28 (0, 0))) : ∃ y : Ed, XAt w B y ∧ y.e.kind = e.kind := ⟨{ x with e := e }, h, rfl⟩
end
theorem wp_mid {P : Program} {o : Oper} {a : Act} {K : Act → World → Prop} {Q : Exit → Act → World → Prop} (w : World) (B j : Nat) (T U : TypeId) (zs cs : List Value) (hh : w.heap[B]? = some (.cells zs.toArray T (0, 0))) (hl : j + cs.length ≤ zs.length) (h1 : ∀ v ∈ cs, v.oneCell' = true) (hi : (P.info? U).map (·.size) = some cs.length)
    (x y : Operand) (ho : o.op = .store U x y) (hx : a.eval x = .pointer (some ⟨B, j, none⟩)) (hy : a.eval y = .agg cs.toArray)
    (h : ∀ w', w'.heap[B]? = some (.cells (zs.take j ++ cs ++ zs.drop (j + cs.length)).toArray T (0, 0)) → Turn (fun q => q = B) w w' → K (a.put o.dst undef) w') : o.wp P a w K Q := by
  refine wp_store_mid U x y ho B j cs.toArray hx hy (fun i hi => ?_) (by simpa using hi) (all_oneCell_toArray h1) (h _ (heap_setCells B T cs j w zs hh hl) (turn_setCells B cs j w))
  have := there_row hh (j + i) (by simp only [List.size_toArray] at hi; omega)
  simpa using this
def ClP (w : World) (e : Ending) (w' : World) : Prop := ∃ z : Ed, e = .returned (.agg z.vals.toArray) ∧ EdOk z ∧ Turn (fun _ => False) w w'
set_option maxHeartbeats 8000000 in
theorem close_any (w : World) (v : Value) (l : List El) (x : Ed) (how : Int) (hv : RowV w v l) (hb : l.length ≤ 1000) (hk : KOk l) (hx : EdOk x) : Calls Try.prog 10 #[v, .agg x.vals.toArray, .int .u8 how] w (ClP w) := by
  obtain ⟨la, lc, rfl⟩ := hv.form
  obtain ⟨n, hn⟩ : ∃ n, l.length = n := ⟨_, rfl⟩
  simp only [hn] at hv hb ⊢
  have HV := Lib.hid hv
  have HN := Lib.hid hn
  have HK := Lib.hid hk
  have HXO := Lib.hid hx
  clear hv hn hk hx
  have hbx := box_alloc w 28 x.vals
  obtain ⟨X, hX⟩ : ∃ X, w.heap.size = X := ⟨_, rfl⟩
  obtain ⟨w1, hw1⟩ : ∃ w1, w.alloc (.cells x.vals.toArray 28) = w1 := ⟨_, rfl⟩
  rw [hw1] at hbx
  have hh := hbx.heap
  rw [hX] at hh
  have hr := hbx.range
  rw [hX] at hr
  obtain ⟨c0, c1, c3, c11, c12, c14⟩ := edC hr
  simp only [Nat.zero_add] at c0 c1 c3 c11 c12 c14
  have T1 := Lib.hid hbx.turn
  have HR := Lib.hid hr
  have HX := Lib.hid hh
  have HXS := Lib.hid hX
  have HSZ := Lib.hid hbx.size
  clear hbx hr hh
  obtain ⟨Z, hZ⟩ : ∃ Z, w1.heap.size = Z := ⟨_, rfl⟩
  obtain ⟨w2, hw2⟩ : ∃ wz, w1.alloc (.cells ed0.vals.toArray 28) = wz := ⟨_, rfl⟩
  have hx0 : ∀ ev op, op.op = .alloc 28 → (execOp ev op).run Try.prog w1 = .ok (.value (.pointer (some ⟨Z, 0, none⟩))) w2 := fun ev op ho => by rw [← hw2, ← hZ]; exact exec_zero_ed ev op ho _
  have hb0 := box_alloc w1 28 ed0.vals
  rw [hw2] at hb0
  have hh0 := hb0.heap
  rw [hZ] at hh0
  have HXX0 := Lib.hid hx0
  have HB0 := Lib.hid hb0
  have HH0 := Lib.hid hh0
  have HE0 := Lib.hid hZ
  clear hb0 hZ hw2 hx0 hh0
  have HX2 := Lib.hid (show XAt w2 X x from (HB0.out.turn.block X (Array.getElem?_eq_some_iff.1 HX.out).1 id).trans HX.out)
  have HZ2 := HH0
  have HXZ := Lib.hid (show X < Z ∧ w.heap.size ≤ X by have := HE0.out; have := HSZ.out; have := HXS.out; omega)
  have T2 := Lib.hid (T1.out.trans HB0.out.turn (fun _ _ => id))
  clear c0 c1 c3 c11 c12 c14
  obtain ⟨c0, c1, c3, c11, c12, c14⟩ := edC (range_of HX2.out)
  simp only [Nat.zero_add] at c0 c1 c3 c11 c12 c14
  have K2 := Lib.hid (show 0 ≤ x.e.kind ∧ x.e.kind ≤ 255 from HXO.out)
  go_enter Try.func10, Try.ntmps10
  go_wp2_with (with_reducible (show wpList _ _ _ (Oper.mk (some 6) (.alloc 28) _ _ _ _ :: _) _ _); refine still ?_)
  refine list_exec rfl _ _ (HXX0.out _ _ rfl) ?_
  cases qh : (how.tmod 4 == 0)
  · go_wp2_with (with_reducible (show wpList _ _ _ (Oper.mk none (.store 5 (.tmp 17) _) _ _ _ _ :: _) _ _); refine still ?_)
    refine list_set1 w2 X 28 5 x.vals 0 _ HX2.out (by show 0 < 16; decide) (by rfl) (by rfl) (by kernel_rfl) rfl (.tmp 17) _ rfl rfl rfl (fun w3 h3 t3 => ?_)
    obtain ⟨z3, hx3, hk3⟩ := ex0 h3
    have HX3 := Lib.hid hx3
    have K3 := Lib.hid (show 0 ≤ z3.e.kind ∧ z3.e.kind ≤ 255 by rw [hk3]; exact K2.out)
    have HZ3 := Lib.hid ((t3.block Z (Array.getElem?_eq_some_iff.1 HZ2.out).1 (fun e => by have := HXZ.out; omega)).trans HZ2.out)
    have T3 := Lib.hid (T2.out.trans t3 (fun q hq e => by have := HXZ.out; omega))
    clear h3 t3 hx3 hk3 c0 c1 c3 c11 c12 c14
    obtain ⟨c0, c1, c3, c11, c12, c14⟩ := edC (range_of HX3.out)
    simp only [Nat.zero_add] at c0 c1 c3 c11 c12 c14
    go_wp2_with (with_reducible (show wpList _ _ _ (Oper.mk none (.store 3 (.tmp 26) _) _ _ _ _ :: _) _ _); refine still ?_)
    refine list_set1 w3 X 28 3 z3.vals 1 _ HX3.out (by show 1 < 16; decide) (by rfl) (by rfl) (by kernel_rfl) rfl (.tmp 26) _ rfl rfl rfl (fun w4 h4 t4 => ?_)
    obtain ⟨z4, hx4, hk4⟩ := ex1 h4
    have HX4 := Lib.hid hx4
    have K4 := Lib.hid (show 0 ≤ z4.e.kind ∧ z4.e.kind ≤ 255 by rw [hk4]; exact K3.out)
    have HZ4 := Lib.hid ((t4.block Z (Array.getElem?_eq_some_iff.1 HZ3.out).1 (fun e => by have := HXZ.out; omega)).trans HZ3.out)
    have T4 := Lib.hid (T3.out.trans t4 (fun q hq e => by have := HXZ.out; omega))
    clear h4 t4 hx4 hk4 c0 c1 c3 c11 c12 c14
    obtain ⟨c0, c1, c3, c11, c12, c14⟩ := edC (range_of HX4.out)
    simp only [Nat.zero_add] at c0 c1 c3 c11 c12 c14
    go_wp2_with fail
    refine (rfind_any w4 _ l z4.e.id (HV.out.turn T4.out (fun _ _ => id)) (by have := HN.out; omega)).mono ?_
    rintro r w4' ⟨hi, rfl⟩
    have HI0 := Lib.hid hi
    obtain ⟨i, hri, hii⟩ : ∃ i : Int, r = .returned (.int .i64 i) ∧ ((∃ k : Nat, k < n ∧ i = (k : Int)) ∨ i = -1) := by
      rcases HI0.out with ⟨k, hk, _, _, he⟩ | ⟨_, he⟩
      · exact ⟨_, he, .inl ⟨k, by have := HN.out; omega, rfl⟩⟩
      · exact ⟨_, he, .inr rfl⟩
    subst hri
    have HI := Lib.hid hii
    clear hi hii HI0
    cases q3 : (z4.op == 3)
    · go_wp2_with (with_reducible (show wpList _ _ _ (Oper.mk none (.store 3 (.tmp 78) _) _ _ _ _ :: _) _ _); refine still ?_)
      refine list_set1 w4 X 28 3 z4.vals 11 _ HX4.out (by show 11 < 16; decide) (by rfl) (by rfl) (by kernel_rfl) rfl (.tmp 78) _ rfl rfl rfl (fun w5 h5 t5 => ?_)
      obtain ⟨z5, hx5, hk5⟩ := ex11 h5
      have HX5 := Lib.hid hx5
      have K5 := Lib.hid (show 0 ≤ z5.e.kind ∧ z5.e.kind ≤ 255 by rw [hk5]; exact K4.out)
      have HZ5 := Lib.hid ((t5.block Z (Array.getElem?_eq_some_iff.1 HZ4.out).1 (fun e => by have := HXZ.out; omega)).trans HZ4.out)
      have T5 := Lib.hid (T4.out.trans t5 (fun q hq e => by have := HXZ.out; omega))
      clear h5 t5 hx5 hk5 c0 c1 c3 c11 c12 c14
      obtain ⟨c0, c1, c3, c11, c12, c14⟩ := edC (range_of HX5.out)
      simp only [Nat.zero_add] at c0 c1 c3 c11 c12 c14
      go_wp2_with (with_reducible (show wpList _ _ _ (Oper.mk (some 79) (.build 26 _) _ _ _ _ :: _) _ _); refine still ?_)
      refine list_exec rfl _ _ (exec_vl0 _ _ rfl _) ?_
      go_wp2_with (with_reducible (show wpList _ _ _ (Oper.mk none (.store 26 (.tmp 80) (.tmp 79)) _ _ _ _ :: _) _ _); refine still ?_)
      refine list_mid w5 X 12 28 26 z5.vals (vl 0 e0) HX5.out (by show 14 ≤ 16; decide) (vl_one _ _) vl_info rfl (.tmp 80) (.tmp 79) rfl rfl rfl (fun w6 h6 t6 => ?_)
      obtain ⟨z6, hx6, hk6⟩ := exO h6
      have HX6 := Lib.hid hx6
      have K6 := Lib.hid (show 0 ≤ z6.e.kind ∧ z6.e.kind ≤ 255 by rw [hk6]; exact K5.out)
      have HZ6 := Lib.hid ((t6.block Z (Array.getElem?_eq_some_iff.1 HZ5.out).1 (fun e => by have := HXZ.out; omega)).trans HZ5.out)
      have T6 := Lib.hid (T5.out.trans t6 (fun q hq e => by have := HXZ.out; omega))
      clear h6 t6 hx6 hk6 c0 c1 c3 c11 c12 c14
      obtain ⟨c0, c1, c3, c11, c12, c14⟩ := edC (range_of HX6.out)
      simp only [Nat.zero_add] at c0 c1 c3 c11 c12 c14
      go_wp2_with (with_reducible (show wpList _ _ _ (Oper.mk (some 81) (.build 26 _) _ _ _ _ :: _) _ _); refine still ?_)
      refine list_exec rfl _ _ (exec_vl0 _ _ rfl _) ?_
      go_wp2_with (with_reducible (show wpList _ _ _ (Oper.mk none (.store 26 (.tmp 82) (.tmp 81)) _ _ _ _ :: _) _ _); refine still ?_)
      refine list_mid w6 X 14 28 26 z6.vals (vl 0 e0) HX6.out (by show 16 ≤ 16; decide) (vl_one _ _) vl_info rfl (.tmp 82) (.tmp 81) rfl rfl rfl (fun w7 h7 t7 => ?_)
      obtain ⟨z7, hx7, hk7⟩ := exN h7
      have HX7 := Lib.hid hx7
      have K7 := Lib.hid (show 0 ≤ z7.e.kind ∧ z7.e.kind ≤ 255 by rw [hk7]; exact K6.out)
      have HZ7 := Lib.hid ((t7.block Z (Array.getElem?_eq_some_iff.1 HZ6.out).1 (fun e => by have := HXZ.out; omega)).trans HZ6.out)
      have T7 := Lib.hid (T6.out.trans t7 (fun q hq e => by have := HXZ.out; omega))
      clear h7 t7 hx7 hk7 c0 c1 c3 c11 c12 c14
      obtain ⟨c0, c1, c3, c11, c12, c14⟩ := edC (range_of HX7.out)
      simp only [Nat.zero_add] at c0 c1 c3 c11 c12 c14
      go_wp2_with (with_reducible (show wpList _ _ _ (Oper.mk none (.store 3 (.tmp 90) _) _ _ _ _ :: _) _ _); refine still ?_)
      refine list_set1 w7 X 28 3 z7.vals 3 _ HX7.out (by show 3 < 16; decide) (by rfl) (by rfl) (by kernel_rfl) rfl (.tmp 90) _ rfl rfl rfl (fun w8 h8 t8 => ?_)
      obtain ⟨z8, hx8, hk8⟩ := ex3 h8
      have HX8 := Lib.hid hx8
      have K8 := Lib.hid (show 0 ≤ z8.e.kind ∧ z8.e.kind ≤ 255 by rw [hk8]; exact K7.out)
      have HZ8 := Lib.hid ((t8.block Z (Array.getElem?_eq_some_iff.1 HZ7.out).1 (fun e => by have := HXZ.out; omega)).trans HZ7.out)
      have T8 := Lib.hid (T7.out.trans t8 (fun q hq e => by have := HXZ.out; omega))
      clear h8 t8 hx8 hk8 c0 c1 c3 c11 c12 c14
      obtain ⟨c0, c1, c3, c11, c12, c14⟩ := edC (range_of HX8.out)
      simp only [Nat.zero_add] at c0 c1 c3 c11 c12 c14
      cases q2 : (z8.op == 2)
      · go_wp2_with (with_reducible (show wpList _ _ _ (Oper.mk (some 108) (.load 28 (.tmp 4)) _ _ _ _ :: _) _ _); refine still ?_)
        refine wpList_load_mid rfl 28 (.tmp 4) rfl X 0 rfl z8.vals _ (range_of HX8.out) Try.underlying28 rfl ed_info ?_
        go_wp2_with (with_reducible (show wpList _ _ _ (Oper.mk none (.store 28 (.tmp 6) (.tmp 108)) _ _ _ _ :: _) _ _); refine still ?_)
        refine list_put w8 Z 28 ed0.vals z8.vals HZ8.out rfl z8.vals_one ed_info rfl (.tmp 6) (.tmp 108) rfl rfl rfl (fun w99 h99 t99 => ?_)
        have H99 := Lib.hid h99
        have T99 := Lib.hid (T8.out.trans t99 (fun q hq e => by have := HXZ.out; omega))
        clear h99 t99
        go_wp2_with fail
        refine bodyPost_ret (run_cell Try.f10 6 28 (by kernel_rfl) Z _ w99 (range_of H99.out) Try.underlying28 rfl ed_info _ rfl) rfl ?_
        exact ⟨z8, rfl, K8.out, T99.out⟩
      · rcases HI.out with ⟨k, hk, rfl⟩ | rfl
        · have dk : decide (0 ≤ (k : Int)) = true := decide_eq_true (by omega)
          cases qg : decide (1 < how.tmod 4)
          · go_wp2_with (with_reducible (show wpList _ _ _ (Oper.mk (some 108) (.load 28 (.tmp 4)) _ _ _ _ :: _) _ _); refine still ?_)
            refine wpList_load_mid rfl 28 (.tmp 4) rfl X 0 rfl z8.vals _ (range_of HX8.out) Try.underlying28 rfl ed_info ?_
            go_wp2_with (with_reducible (show wpList _ _ _ (Oper.mk none (.store 28 (.tmp 6) (.tmp 108)) _ _ _ _ :: _) _ _); refine still ?_)
            refine list_put w8 Z 28 ed0.vals z8.vals HZ8.out rfl z8.vals_one ed_info rfl (.tmp 6) (.tmp 108) rfl rfl rfl (fun w99 h99 t99 => ?_)
            have H99 := Lib.hid h99
            have T99 := Lib.hid (T8.out.trans t99 (fun q hq e => by have := HXZ.out; omega))
            clear h99 t99
            go_wp2_with fail
            refine bodyPost_ret (run_cell Try.f10 6 28 (by kernel_rfl) Z _ w99 (range_of H99.out) Try.underlying28 rfl ed_info _ rfl) rfl ?_
            exact ⟨z8, rfl, K8.out, T99.out⟩
          · obtain ⟨g, ob, rfl, hcc, hs⟩ := (HV.out.turn T8.out (fun _ _ => id)).one HN.out k hk
            have gk : (0 : Int) ≤ (k : Int) ∧ (k : Int) < (n : Int) := by omega
            have hok := HK.out _ (getD_mem (l := l) (k := k) (by rw [HN.out]; exact hk))
            obtain ⟨o, ho⟩ : ∃ o, l.getD k el0 = o := ⟨_, rfl⟩
            rw [ho] at hs hok
            have HS := Lib.hid hs
            have HOK := Lib.hid hok
            clear hs hok ho hcc hk
            go_wp2_with (with_reducible (show wpList _ _ _ (Oper.mk (some 106) (.load 24 (.tmp 105)) _ _ _ _ :: _) _ _); refine still ?_)
            refine wpList_load_mid rfl 24 (.tmp 105) rfl g (ob + k * 10) rfl o.vals _ HS.out Try.underlying24 rfl el_info ?_
            go_wp2_with (with_reducible (show wpList _ _ _ (Oper.mk none (.store 24 (.tmp 107) (.tmp 106)) _ _ _ _ :: _) _ _); refine still ?_)
            refine list_mid w8 X 1 28 24 z8.vals o.vals HX8.out (by show 11 ≤ 16; decide) o.vals_one el_info rfl (.tmp 107) (.tmp 106) rfl rfl rfl (fun w9 h9 t9 => ?_)
            obtain ⟨z9, hx9, hk9⟩ := exE h9
            have HX9 := Lib.hid hx9
            have K9 := Lib.hid (show 0 ≤ z9.e.kind ∧ z9.e.kind ≤ 255 by rw [hk9]; exact HOK.out)
            have HZ9 := Lib.hid ((t9.block Z (Array.getElem?_eq_some_iff.1 HZ8.out).1 (fun e => by have := HXZ.out; omega)).trans HZ8.out)
            have T9 := Lib.hid (T8.out.trans t9 (fun q hq e => by have := HXZ.out; omega))
            clear h9 t9 hx9 hk9 c0 c1 c3 c11 c12 c14
            obtain ⟨c0, c1, c3, c11, c12, c14⟩ := edC (range_of HX9.out)
            simp only [Nat.zero_add] at c0 c1 c3 c11 c12 c14
            go_wp2_with (with_reducible (show wpList _ _ _ (Oper.mk (some 108) (.load 28 (.tmp 4)) _ _ _ _ :: _) _ _); refine still ?_)
            refine wpList_load_mid rfl 28 (.tmp 4) rfl X 0 rfl z9.vals _ (range_of HX9.out) Try.underlying28 rfl ed_info ?_
            go_wp2_with (with_reducible (show wpList _ _ _ (Oper.mk none (.store 28 (.tmp 6) (.tmp 108)) _ _ _ _ :: _) _ _); refine still ?_)
            refine list_put w9 Z 28 ed0.vals z9.vals HZ9.out rfl z9.vals_one ed_info rfl (.tmp 6) (.tmp 108) rfl rfl rfl (fun w99 h99 t99 => ?_)
            have H99 := Lib.hid h99
            have T99 := Lib.hid (T9.out.trans t99 (fun q hq e => by have := HXZ.out; omega))
            clear h99 t99
            go_wp2_with fail
            refine bodyPost_ret (run_cell Try.f10 6 28 (by kernel_rfl) Z _ w99 (range_of H99.out) Try.underlying28 rfl ed_info _ rfl) rfl ?_
            exact ⟨z9, rfl, K9.out, T99.out⟩
        · go_wp2_with (with_reducible (show wpList _ _ _ (Oper.mk (some 108) (.load 28 (.tmp 4)) _ _ _ _ :: _) _ _); refine still ?_)
          refine wpList_load_mid rfl 28 (.tmp 4) rfl X 0 rfl z8.vals _ (range_of HX8.out) Try.underlying28 rfl ed_info ?_
          go_wp2_with (with_reducible (show wpList _ _ _ (Oper.mk none (.store 28 (.tmp 6) (.tmp 108)) _ _ _ _ :: _) _ _); refine still ?_)
          refine list_put w8 Z 28 ed0.vals z8.vals HZ8.out rfl z8.vals_one ed_info rfl (.tmp 6) (.tmp 108) rfl rfl rfl (fun w99 h99 t99 => ?_)
          have H99 := Lib.hid h99
          have T99 := Lib.hid (T8.out.trans t99 (fun q hq e => by have := HXZ.out; omega))
          clear h99 t99
          go_wp2_with fail
          refine bodyPost_ret (run_cell Try.f10 6 28 (by kernel_rfl) Z _ w99 (range_of H99.out) Try.underlying28 rfl ed_info _ rfl) rfl ?_
          exact ⟨z8, rfl, K8.out, T99.out⟩
    · go_wp2_with (with_reducible (show wpList _ _ _ (Oper.mk (some 38) (.build 24 _) _ _ _ _ :: _) _ _); refine still ?_)
      refine list_exec rfl _ _ (exec_build_at _ _ _ z4.e.id rfl rfl _) ?_
      go_wp2_with (with_reducible (show wpList _ _ _ (Oper.mk none (.store 24 (.tmp 39) (.tmp 38)) _ _ _ _ :: _) _ _); refine still ?_)
      refine list_mid w4 X 1 28 24 z4.vals (El.at z4.e.id).vals HX4.out (by show 11 ≤ 16; decide) (El.at z4.e.id).vals_one el_info rfl (.tmp 39) (.tmp 38) rfl rfl rfl (fun w5 h5 t5 => ?_)
      obtain ⟨z5, hx5, hk5⟩ := exE h5
      have HX5 := Lib.hid hx5
      have K5 := Lib.hid (show 0 ≤ z5.e.kind ∧ z5.e.kind ≤ 255 by rw [hk5]; exact ⟨by show (0 : Int) ≤ 0; decide, by show (0 : Int) ≤ 255; decide⟩)
      have HZ5 := Lib.hid ((t5.block Z (Array.getElem?_eq_some_iff.1 HZ4.out).1 (fun e => by have := HXZ.out; omega)).trans HZ4.out)
      have T5 := Lib.hid (T4.out.trans t5 (fun q hq e => by have := HXZ.out; omega))
      clear h5 t5 hx5 hk5 c0 c1 c3 c11 c12 c14
      obtain ⟨c0, c1, c3, c11, c12, c14⟩ := edC (range_of HX5.out)
      simp only [Nat.zero_add] at c0 c1 c3 c11 c12 c14
      go_wp2_with (with_reducible (show wpList _ _ _ (Oper.mk none (.store 3 (.tmp 45) _) _ _ _ _ :: _) _ _); refine still ?_)
      refine list_set1 w5 X 28 3 z5.vals 11 _ HX5.out (by show 11 < 16; decide) (by rfl) (by rfl) (by kernel_rfl) rfl (.tmp 45) _ rfl rfl rfl (fun w6 h6 t6 => ?_)
      obtain ⟨z6, hx6, hk6⟩ := ex11 h6
      have HX6 := Lib.hid hx6
      have K6 := Lib.hid (show 0 ≤ z6.e.kind ∧ z6.e.kind ≤ 255 by rw [hk6]; exact K5.out)
      have HZ6 := Lib.hid ((t6.block Z (Array.getElem?_eq_some_iff.1 HZ5.out).1 (fun e => by have := HXZ.out; omega)).trans HZ5.out)
      have T6 := Lib.hid (T5.out.trans t6 (fun q hq e => by have := HXZ.out; omega))
      clear h6 t6 hx6 hk6 c0 c1 c3 c11 c12 c14
      obtain ⟨c0, c1, c3, c11, c12, c14⟩ := edC (range_of HX6.out)
      simp only [Nat.zero_add] at c0 c1 c3 c11 c12 c14
      cases qa : (z6.f == 3)
      · cases qb : decide (5 < z6.f)
        · go_wp2_with (with_reducible (show wpList _ _ _ (Oper.mk none (.store 9 (.tmp 58) _) _ _ _ _ :: _) _ _); refine still ?_)
          refine list_set1 w6 X 28 9 z6.vals 15 _ HX6.out (by show 15 < 16; decide) (by rfl) (by rfl) (by kernel_rfl) rfl (.tmp 58) _ rfl rfl rfl (fun w7 h7 t7 => ?_)
          obtain ⟨z7, hx7, hk7⟩ := ex15 h7
          have HX7 := Lib.hid hx7
          have K7 := Lib.hid (show 0 ≤ z7.e.kind ∧ z7.e.kind ≤ 255 by rw [hk7]; exact K6.out)
          have HZ7 := Lib.hid ((t7.block Z (Array.getElem?_eq_some_iff.1 HZ6.out).1 (fun e => by have := HXZ.out; omega)).trans HZ6.out)
          have T7 := Lib.hid (T6.out.trans t7 (fun q hq e => by have := HXZ.out; omega))
          clear h7 t7 hx7 hk7 c0 c1 c3 c11 c12 c14
          obtain ⟨c0, c1, c3, c11, c12, c14⟩ := edC (range_of HX7.out)
          simp only [Nat.zero_add] at c0 c1 c3 c11 c12 c14
          go_wp2_with (with_reducible (show wpList _ _ _ (Oper.mk none (.store 3 (.tmp 66) _) _ _ _ _ :: _) _ _); refine still ?_)
          refine list_set1 w7 X 28 3 z7.vals 14 _ HX7.out (by show 14 < 16; decide) (by rfl) (by rfl) (by kernel_rfl) rfl (.tmp 66) _ rfl rfl rfl (fun w8 h8 t8 => ?_)
          obtain ⟨z8, hx8, hk8⟩ := ex14 h8
          have HX8 := Lib.hid hx8
          have K8 := Lib.hid (show 0 ≤ z8.e.kind ∧ z8.e.kind ≤ 255 by rw [hk8]; exact K7.out)
          have HZ8 := Lib.hid ((t8.block Z (Array.getElem?_eq_some_iff.1 HZ7.out).1 (fun e => by have := HXZ.out; omega)).trans HZ7.out)
          have T8 := Lib.hid (T7.out.trans t8 (fun q hq e => by have := HXZ.out; omega))
          clear h8 t8 hx8 hk8 c0 c1 c3 c11 c12 c14
          obtain ⟨c0, c1, c3, c11, c12, c14⟩ := edC (range_of HX8.out)
          simp only [Nat.zero_add] at c0 c1 c3 c11 c12 c14
          rcases HI.out with ⟨k, hk, rfl⟩ | rfl
          · have dk : decide (0 ≤ (k : Int)) = true := decide_eq_true (by omega)
            obtain ⟨g, ob, rfl, hcc, hs0⟩ := HV.out.one HN.out k hk
            have hs := rangeAt_turn hs0 T8.out id
            have hgx := World.block_lt_of_cell? w _ (hs0 0 _ rfl)
            have gk : (0 : Int) ≤ (k : Int) ∧ (k : Int) < (n : Int) := by omega
            have hok := HK.out _ (getD_mem (l := l) (k := k) (by rw [HN.out]; exact hk))
            obtain ⟨o, ho⟩ : ∃ o, l.getD k el0 = o := ⟨_, rfl⟩
            rw [ho] at hs hok
            have HS := Lib.hid hs
            have HOK := Lib.hid hok
            have HGX := Lib.hid (show g < X by have := HXZ.out; have : g < w.heap.size := hgx; omega)
            clear hs hs0 hok ho hcc hk hgx
            go_wp2_with fail
            refine wp_region_held_drew (S := fun wq => wq.rangeAt g (ob + k * 10) o.vals) (by kernel_rfl) HS.out (fun hHeld => ?_)
            refine wpAnyH_take (i := 0) (v := .slice (some ⟨g, ob, none⟩) n lc) rfl (by kernel_rfl) (by kernel_rfl) (by kernel_rfl) (fun _ _ _ h => h) (Or.inl ⟨by rfl, ?yq7⟩) (by assumption) ?rq7
            case yq7 => (intro wq hSw; (try simp only [List.getElem_toArray, List.getElem_cons_zero, List.getElem_cons_succ]); go_simp; (try with_reducible rfl); all_goals (try omega))
            case rq7 =>
            try simp only [Act.put, List.setIfInBounds_toArray, List.set_cons_zero, List.set_cons_succ, List.getElem_toArray, List.getElem_cons_zero, List.getElem_cons_succ]
            refine wpAnyH_take (i := 1) (v := .int .i64 (k : Int)) rfl (by kernel_rfl) (by kernel_rfl) (by kernel_rfl) (fun _ _ _ h => h) (Or.inl ⟨by rfl, ?yq8⟩) (by assumption) ?rq8
            case yq8 => (intro wq hSw; (try simp only [List.getElem_toArray, List.getElem_cons_zero, List.getElem_cons_succ]); go_simp; (try with_reducible rfl); all_goals (try omega))
            case rq8 =>
            try simp only [Act.put, List.setIfInBounds_toArray, List.set_cons_zero, List.set_cons_succ, List.getElem_toArray, List.getElem_cons_zero, List.getElem_cons_succ]
            refine wpAnyH_take (i := 2) (v := .pointer (some ⟨g, ob + k * 10, none⟩)) rfl (by kernel_rfl) (by kernel_rfl) (by kernel_rfl) (fun _ _ _ h => h) (Or.inl ⟨by rfl, ?yq9⟩) (by assumption) ?rq9
            case yq9 => (intro wq hSw; (try simp only [List.getElem_toArray, List.getElem_cons_zero, List.getElem_cons_succ]); go_simp; (try with_reducible rfl); all_goals (try omega))
            case rq9 =>
            try simp only [Act.put, List.setIfInBounds_toArray, List.set_cons_zero, List.set_cons_succ, List.getElem_toArray, List.getElem_cons_zero, List.getElem_cons_succ]
            refine wpAnyH_take (i := 3) (v := .agg o.vals.toArray) rfl (by kernel_rfl) (by kernel_rfl) (by kernel_rfl) (fun _ _ _ h => h) (Or.inl ⟨by rfl, ?yq10⟩) (by assumption) ?rq10
            case yq10 => (intro wq hSw; exact exec_load_mid _ _ 24 (.tmp 71) rfl g (ob + k * 10) rfl o.vals _ _ hSw Try.underlying24 rfl el_info)
            case rq10 =>
            try simp only [Act.put, List.setIfInBounds_toArray, List.set_cons_zero, List.set_cons_succ, List.getElem_toArray, List.getElem_cons_zero, List.getElem_cons_succ]
            refine wpAnyH_take (i := 4) (v := .pointer (some ⟨X, 11, none⟩)) rfl (by kernel_rfl) (by kernel_rfl) (by kernel_rfl) (fun _ _ _ h => h) (Or.inl ⟨by rfl, ?yq11⟩) (by assumption) ?rq11
            case yq11 => (intro wq hSw; (try simp only [List.getElem_toArray, List.getElem_cons_zero, List.getElem_cons_succ]); go_simp; (try with_reducible rfl); all_goals (try omega))
            case rq11 =>
            try simp only [Act.put, List.setIfInBounds_toArray, List.set_cons_zero, List.set_cons_succ, List.getElem_toArray, List.getElem_cons_zero, List.getElem_cons_succ]
            refine wpAnyH_ready (rs := [5]) (by kernel_rfl) (by simp) ?_
            refine AllReadyH.cons rfl (fun K hK => ?_) AllReadyH.nil
            go_simp
            refine hK.out _ _ HS.out (fun _ => ?_)
            clear hK K
            try simp only [Act.put, List.setIfInBounds_toArray, List.set_cons_zero, List.set_cons_succ, List.getElem_toArray, List.getElem_cons_zero, List.getElem_cons_succ]
            refine wpAnyH_ready (rs := [6]) (by kernel_rfl) (by simp) ?_
            refine AllReadyH.cons rfl (fun K hK => ?_) AllReadyH.nil
            go_simp
            refine (value_any w8.drew o z8.f HOK.out).mono ?_
            rintro r wd ⟨rfl, td⟩
            have td' := (Turn.refl (fun _ => False) w8).drew.trans td (fun _ _ => id)
            have HSd := Lib.hid (rangeAt_turn HS.out td' id)
            have HXd := Lib.hid ((td'.block X (Array.getElem?_eq_some_iff.1 HX8.out).1 id).trans HX8.out)
            have HZd := Lib.hid ((td'.block Z (Array.getElem?_eq_some_iff.1 HZ8.out).1 id).trans HZ8.out)
            have Td := Lib.hid (T8.out.trans td' (fun _ _ => id))
            have Kd := K8
            clear td td'
            refine hK.out _ _ HSd.out (fun _ => ?_)
            clear hK K
            try simp only [Act.put, List.setIfInBounds_toArray, List.set_cons_zero, List.set_cons_succ, List.getElem_toArray, List.getElem_cons_zero, List.getElem_cons_succ]
            refine wpAnyH_take (i := 7) (v := .pointer (some ⟨X, 12, none⟩)) rfl (by kernel_rfl) (by kernel_rfl) (by kernel_rfl) (fun _ _ _ h => h) (Or.inl ⟨by rfl, ?yq12⟩) (by assumption) ?rq12
            case yq12 => (intro wq hSw; (try simp only [List.getElem_toArray, List.getElem_cons_zero, List.getElem_cons_succ]); go_simp; (try with_reducible rfl); all_goals (try omega))
            case rq12 =>
            try simp only [Act.put, List.setIfInBounds_toArray, List.set_cons_zero, List.set_cons_succ, List.getElem_toArray, List.getElem_cons_zero, List.getElem_cons_succ]
            refine wpAnyH_ready (rs := [8]) (by kernel_rfl) (by simp) ?_
            refine AllReadyH.cons rfl (fun K hK => ?_) AllReadyH.nil
            rw [if_pos (by rfl)]
            refine wp_mid wd X 12 28 26 z8.vals (vl (getN o z8.f) (getS o z8.f)) HXd.out (by show 14 ≤ 16; decide) (vl_one _ _) vl_info (.tmp 76) (.tmp 75) rfl rfl rfl (fun w20 h20 t20 => ?_)
            have HSe := Lib.hid (rangeAt_turn HSd.out t20 (fun e => by have := HGX.out; omega))
            obtain ⟨z20, hx20, hk20⟩ := exO h20
            have HX20 := Lib.hid hx20
            have K20 := Lib.hid (show 0 ≤ z20.e.kind ∧ z20.e.kind ≤ 255 by rw [hk20]; exact Kd.out)
            have HZ20 := Lib.hid ((t20.block Z (Array.getElem?_eq_some_iff.1 HZd.out).1 (fun e => by have := HXZ.out; omega)).trans HZd.out)
            have T20 := Lib.hid (Td.out.trans t20 (fun q hq e => by have := HXZ.out; omega))
            clear h20 t20 hx20 hk20 c0 c1 c3 c11 c12 c14
            obtain ⟨c0, c1, c3, c11, c12, c14⟩ := edC (range_of HX20.out)
            simp only [Nat.zero_add] at c0 c1 c3 c11 c12 c14
            refine hK.out _ _ HSe.out (fun _ => ?_)
            clear hK K
            try simp only [Act.put, List.setIfInBounds_toArray, List.set_cons_zero, List.set_cons_succ, List.getElem_toArray, List.getElem_cons_zero, List.getElem_cons_succ]
            refine wpAnyH_done (by kernel_rfl) ?_ _
            clear hHeld
            go_wp2_with (with_reducible (show wpList _ _ _ (Oper.mk (some 77) (.load 28 (.tmp 4)) _ _ _ _ :: _) _ _); refine still ?_)
            refine wpList_load_mid rfl 28 (.tmp 4) rfl X 0 rfl z20.vals _ (range_of HX20.out) Try.underlying28 rfl ed_info ?_
            go_wp2_with (with_reducible (show wpList _ _ _ (Oper.mk none (.store 28 (.tmp 6) (.tmp 77)) _ _ _ _ :: _) _ _); refine still ?_)
            refine list_put w20 Z 28 ed0.vals z20.vals HZ20.out rfl z20.vals_one ed_info rfl (.tmp 6) (.tmp 77) rfl rfl rfl (fun w99 h99 t99 => ?_)
            have H99 := Lib.hid h99
            have T99 := Lib.hid (T20.out.trans t99 (fun q hq e => by have := HXZ.out; omega))
            clear h99 t99
            go_wp2_with fail
            refine bodyPost_ret (run_cell Try.f10 6 28 (by kernel_rfl) Z _ w99 (range_of H99.out) Try.underlying28 rfl ed_info _ rfl) rfl ?_
            exact ⟨z20, rfl, K20.out, T99.out⟩
          · go_wp2_with (with_reducible (show wpList _ _ _ (Oper.mk (some 77) (.load 28 (.tmp 4)) _ _ _ _ :: _) _ _); refine still ?_)
            refine wpList_load_mid rfl 28 (.tmp 4) rfl X 0 rfl z8.vals _ (range_of HX8.out) Try.underlying28 rfl ed_info ?_
            go_wp2_with (with_reducible (show wpList _ _ _ (Oper.mk none (.store 28 (.tmp 6) (.tmp 77)) _ _ _ _ :: _) _ _); refine still ?_)
            refine list_put w8 Z 28 ed0.vals z8.vals HZ8.out rfl z8.vals_one ed_info rfl (.tmp 6) (.tmp 77) rfl rfl rfl (fun w99 h99 t99 => ?_)
            have H99 := Lib.hid h99
            have T99 := Lib.hid (T8.out.trans t99 (fun q hq e => by have := HXZ.out; omega))
            clear h99 t99
            go_wp2_with fail
            refine bodyPost_ret (run_cell Try.f10 6 28 (by kernel_rfl) Z _ w99 (range_of H99.out) Try.underlying28 rfl ed_info _ rfl) rfl ?_
            exact ⟨z8, rfl, K8.out, T99.out⟩
        · go_wp2_with (with_reducible (show wpList _ _ _ (Oper.mk none (.store 3 (.tmp 56) _) _ _ _ _ :: _) _ _); refine still ?_)
          refine list_set1 w6 X 28 3 z6.vals 14 _ HX6.out (by show 14 < 16; decide) (by rfl) (by rfl) (by kernel_rfl) rfl (.tmp 56) _ rfl rfl rfl (fun w7 h7 t7 => ?_)
          obtain ⟨z7, hx7, hk7⟩ := ex14 h7
          have HX7 := Lib.hid hx7
          have K7 := Lib.hid (show 0 ≤ z7.e.kind ∧ z7.e.kind ≤ 255 by rw [hk7]; exact K6.out)
          have HZ7 := Lib.hid ((t7.block Z (Array.getElem?_eq_some_iff.1 HZ6.out).1 (fun e => by have := HXZ.out; omega)).trans HZ6.out)
          have T7 := Lib.hid (T6.out.trans t7 (fun q hq e => by have := HXZ.out; omega))
          clear h7 t7 hx7 hk7 c0 c1 c3 c11 c12 c14
          obtain ⟨c0, c1, c3, c11, c12, c14⟩ := edC (range_of HX7.out)
          simp only [Nat.zero_add] at c0 c1 c3 c11 c12 c14
          rcases HI.out with ⟨k, hk, rfl⟩ | rfl
          · have dk : decide (0 ≤ (k : Int)) = true := decide_eq_true (by omega)
            obtain ⟨g, ob, rfl, hcc, hs0⟩ := HV.out.one HN.out k hk
            have hs := rangeAt_turn hs0 T7.out id
            have hgx := World.block_lt_of_cell? w _ (hs0 0 _ rfl)
            have gk : (0 : Int) ≤ (k : Int) ∧ (k : Int) < (n : Int) := by omega
            have hok := HK.out _ (getD_mem (l := l) (k := k) (by rw [HN.out]; exact hk))
            obtain ⟨o, ho⟩ : ∃ o, l.getD k el0 = o := ⟨_, rfl⟩
            rw [ho] at hs hok
            have HS := Lib.hid hs
            have HOK := Lib.hid hok
            have HGX := Lib.hid (show g < X by have := HXZ.out; have : g < w.heap.size := hgx; omega)
            clear hs hs0 hok ho hcc hk hgx
            go_wp2_with fail
            refine wp_region_held_drew (S := fun wq => wq.rangeAt g (ob + k * 10) o.vals) (by kernel_rfl) HS.out (fun hHeld => ?_)
            refine wpAnyH_take (i := 0) (v := .slice (some ⟨g, ob, none⟩) n lc) rfl (by kernel_rfl) (by kernel_rfl) (by kernel_rfl) (fun _ _ _ h => h) (Or.inl ⟨by rfl, ?yq1⟩) (by assumption) ?rq1
            case yq1 => (intro wq hSw; (try simp only [List.getElem_toArray, List.getElem_cons_zero, List.getElem_cons_succ]); go_simp; (try with_reducible rfl); all_goals (try omega))
            case rq1 =>
            try simp only [Act.put, List.setIfInBounds_toArray, List.set_cons_zero, List.set_cons_succ, List.getElem_toArray, List.getElem_cons_zero, List.getElem_cons_succ]
            refine wpAnyH_take (i := 1) (v := .int .i64 (k : Int)) rfl (by kernel_rfl) (by kernel_rfl) (by kernel_rfl) (fun _ _ _ h => h) (Or.inl ⟨by rfl, ?yq2⟩) (by assumption) ?rq2
            case yq2 => (intro wq hSw; (try simp only [List.getElem_toArray, List.getElem_cons_zero, List.getElem_cons_succ]); go_simp; (try with_reducible rfl); all_goals (try omega))
            case rq2 =>
            try simp only [Act.put, List.setIfInBounds_toArray, List.set_cons_zero, List.set_cons_succ, List.getElem_toArray, List.getElem_cons_zero, List.getElem_cons_succ]
            refine wpAnyH_take (i := 2) (v := .pointer (some ⟨g, ob + k * 10, none⟩)) rfl (by kernel_rfl) (by kernel_rfl) (by kernel_rfl) (fun _ _ _ h => h) (Or.inl ⟨by rfl, ?yq3⟩) (by assumption) ?rq3
            case yq3 => (intro wq hSw; (try simp only [List.getElem_toArray, List.getElem_cons_zero, List.getElem_cons_succ]); go_simp; (try with_reducible rfl); all_goals (try omega))
            case rq3 =>
            try simp only [Act.put, List.setIfInBounds_toArray, List.set_cons_zero, List.set_cons_succ, List.getElem_toArray, List.getElem_cons_zero, List.getElem_cons_succ]
            refine wpAnyH_take (i := 3) (v := .agg o.vals.toArray) rfl (by kernel_rfl) (by kernel_rfl) (by kernel_rfl) (fun _ _ _ h => h) (Or.inl ⟨by rfl, ?yq4⟩) (by assumption) ?rq4
            case yq4 => (intro wq hSw; exact exec_load_mid _ _ 24 (.tmp 71) rfl g (ob + k * 10) rfl o.vals _ _ hSw Try.underlying24 rfl el_info)
            case rq4 =>
            try simp only [Act.put, List.setIfInBounds_toArray, List.set_cons_zero, List.set_cons_succ, List.getElem_toArray, List.getElem_cons_zero, List.getElem_cons_succ]
            refine wpAnyH_take (i := 4) (v := .pointer (some ⟨X, 11, none⟩)) rfl (by kernel_rfl) (by kernel_rfl) (by kernel_rfl) (fun _ _ _ h => h) (Or.inl ⟨by rfl, ?yq5⟩) (by assumption) ?rq5
            case yq5 => (intro wq hSw; (try simp only [List.getElem_toArray, List.getElem_cons_zero, List.getElem_cons_succ]); go_simp; (try with_reducible rfl); all_goals (try omega))
            case rq5 =>
            try simp only [Act.put, List.setIfInBounds_toArray, List.set_cons_zero, List.set_cons_succ, List.getElem_toArray, List.getElem_cons_zero, List.getElem_cons_succ]
            refine wpAnyH_ready (rs := [5]) (by kernel_rfl) (by simp) ?_
            refine AllReadyH.cons rfl (fun K hK => ?_) AllReadyH.nil
            go_simp
            refine hK.out _ _ HS.out (fun _ => ?_)
            clear hK K
            try simp only [Act.put, List.setIfInBounds_toArray, List.set_cons_zero, List.set_cons_succ, List.getElem_toArray, List.getElem_cons_zero, List.getElem_cons_succ]
            refine wpAnyH_ready (rs := [6]) (by kernel_rfl) (by simp) ?_
            refine AllReadyH.cons rfl (fun K hK => ?_) AllReadyH.nil
            go_simp
            refine (value_any w7.drew o z7.f HOK.out).mono ?_
            rintro r wd ⟨rfl, td⟩
            have td' := (Turn.refl (fun _ => False) w7).drew.trans td (fun _ _ => id)
            have HSd := Lib.hid (rangeAt_turn HS.out td' id)
            have HXd := Lib.hid ((td'.block X (Array.getElem?_eq_some_iff.1 HX7.out).1 id).trans HX7.out)
            have HZd := Lib.hid ((td'.block Z (Array.getElem?_eq_some_iff.1 HZ7.out).1 id).trans HZ7.out)
            have Td := Lib.hid (T7.out.trans td' (fun _ _ => id))
            have Kd := K7
            clear td td'
            refine hK.out _ _ HSd.out (fun _ => ?_)
            clear hK K
            try simp only [Act.put, List.setIfInBounds_toArray, List.set_cons_zero, List.set_cons_succ, List.getElem_toArray, List.getElem_cons_zero, List.getElem_cons_succ]
            refine wpAnyH_take (i := 7) (v := .pointer (some ⟨X, 12, none⟩)) rfl (by kernel_rfl) (by kernel_rfl) (by kernel_rfl) (fun _ _ _ h => h) (Or.inl ⟨by rfl, ?yq6⟩) (by assumption) ?rq6
            case yq6 => (intro wq hSw; (try simp only [List.getElem_toArray, List.getElem_cons_zero, List.getElem_cons_succ]); go_simp; (try with_reducible rfl); all_goals (try omega))
            case rq6 =>
            try simp only [Act.put, List.setIfInBounds_toArray, List.set_cons_zero, List.set_cons_succ, List.getElem_toArray, List.getElem_cons_zero, List.getElem_cons_succ]
            refine wpAnyH_ready (rs := [8]) (by kernel_rfl) (by simp) ?_
            refine AllReadyH.cons rfl (fun K hK => ?_) AllReadyH.nil
            rw [if_pos (by rfl)]
            refine wp_mid wd X 12 28 26 z7.vals (vl (getN o z7.f) (getS o z7.f)) HXd.out (by show 14 ≤ 16; decide) (vl_one _ _) vl_info (.tmp 76) (.tmp 75) rfl rfl rfl (fun w20 h20 t20 => ?_)
            have HSe := Lib.hid (rangeAt_turn HSd.out t20 (fun e => by have := HGX.out; omega))
            obtain ⟨z20, hx20, hk20⟩ := exO h20
            have HX20 := Lib.hid hx20
            have K20 := Lib.hid (show 0 ≤ z20.e.kind ∧ z20.e.kind ≤ 255 by rw [hk20]; exact Kd.out)
            have HZ20 := Lib.hid ((t20.block Z (Array.getElem?_eq_some_iff.1 HZd.out).1 (fun e => by have := HXZ.out; omega)).trans HZd.out)
            have T20 := Lib.hid (Td.out.trans t20 (fun q hq e => by have := HXZ.out; omega))
            clear h20 t20 hx20 hk20 c0 c1 c3 c11 c12 c14
            obtain ⟨c0, c1, c3, c11, c12, c14⟩ := edC (range_of HX20.out)
            simp only [Nat.zero_add] at c0 c1 c3 c11 c12 c14
            refine hK.out _ _ HSe.out (fun _ => ?_)
            clear hK K
            try simp only [Act.put, List.setIfInBounds_toArray, List.set_cons_zero, List.set_cons_succ, List.getElem_toArray, List.getElem_cons_zero, List.getElem_cons_succ]
            refine wpAnyH_done (by kernel_rfl) ?_ _
            clear hHeld
            go_wp2_with (with_reducible (show wpList _ _ _ (Oper.mk (some 77) (.load 28 (.tmp 4)) _ _ _ _ :: _) _ _); refine still ?_)
            refine wpList_load_mid rfl 28 (.tmp 4) rfl X 0 rfl z20.vals _ (range_of HX20.out) Try.underlying28 rfl ed_info ?_
            go_wp2_with (with_reducible (show wpList _ _ _ (Oper.mk none (.store 28 (.tmp 6) (.tmp 77)) _ _ _ _ :: _) _ _); refine still ?_)
            refine list_put w20 Z 28 ed0.vals z20.vals HZ20.out rfl z20.vals_one ed_info rfl (.tmp 6) (.tmp 77) rfl rfl rfl (fun w99 h99 t99 => ?_)
            have H99 := Lib.hid h99
            have T99 := Lib.hid (T20.out.trans t99 (fun q hq e => by have := HXZ.out; omega))
            clear h99 t99
            go_wp2_with fail
            refine bodyPost_ret (run_cell Try.f10 6 28 (by kernel_rfl) Z _ w99 (range_of H99.out) Try.underlying28 rfl ed_info _ rfl) rfl ?_
            exact ⟨z20, rfl, K20.out, T99.out⟩
          · go_wp2_with (with_reducible (show wpList _ _ _ (Oper.mk (some 77) (.load 28 (.tmp 4)) _ _ _ _ :: _) _ _); refine still ?_)
            refine wpList_load_mid rfl 28 (.tmp 4) rfl X 0 rfl z7.vals _ (range_of HX7.out) Try.underlying28 rfl ed_info ?_
            go_wp2_with (with_reducible (show wpList _ _ _ (Oper.mk none (.store 28 (.tmp 6) (.tmp 77)) _ _ _ _ :: _) _ _); refine still ?_)
            refine list_put w7 Z 28 ed0.vals z7.vals HZ7.out rfl z7.vals_one ed_info rfl (.tmp 6) (.tmp 77) rfl rfl rfl (fun w99 h99 t99 => ?_)
            have H99 := Lib.hid h99
            have T99 := Lib.hid (T7.out.trans t99 (fun q hq e => by have := HXZ.out; omega))
            clear h99 t99
            go_wp2_with fail
            refine bodyPost_ret (run_cell Try.f10 6 28 (by kernel_rfl) Z _ w99 (range_of H99.out) Try.underlying28 rfl ed_info _ rfl) rfl ?_
            exact ⟨z7, rfl, K7.out, T99.out⟩
      · go_wp2_with (with_reducible (show wpList _ _ _ (Oper.mk none (.store 3 (.tmp 56) _) _ _ _ _ :: _) _ _); refine still ?_)
        refine list_set1 w6 X 28 3 z6.vals 14 _ HX6.out (by show 14 < 16; decide) (by rfl) (by rfl) (by kernel_rfl) rfl (.tmp 56) _ rfl rfl rfl (fun w7 h7 t7 => ?_)
        obtain ⟨z7, hx7, hk7⟩ := ex14 h7
        have HX7 := Lib.hid hx7
        have K7 := Lib.hid (show 0 ≤ z7.e.kind ∧ z7.e.kind ≤ 255 by rw [hk7]; exact K6.out)
        have HZ7 := Lib.hid ((t7.block Z (Array.getElem?_eq_some_iff.1 HZ6.out).1 (fun e => by have := HXZ.out; omega)).trans HZ6.out)
        have T7 := Lib.hid (T6.out.trans t7 (fun q hq e => by have := HXZ.out; omega))
        clear h7 t7 hx7 hk7 c0 c1 c3 c11 c12 c14
        obtain ⟨c0, c1, c3, c11, c12, c14⟩ := edC (range_of HX7.out)
        simp only [Nat.zero_add] at c0 c1 c3 c11 c12 c14
        rcases HI.out with ⟨k, hk, rfl⟩ | rfl
        · have dk : decide (0 ≤ (k : Int)) = true := decide_eq_true (by omega)
          obtain ⟨g, ob, rfl, hcc, hs0⟩ := HV.out.one HN.out k hk
          have hs := rangeAt_turn hs0 T7.out id
          have hgx := World.block_lt_of_cell? w _ (hs0 0 _ rfl)
          have gk : (0 : Int) ≤ (k : Int) ∧ (k : Int) < (n : Int) := by omega
          have hok := HK.out _ (getD_mem (l := l) (k := k) (by rw [HN.out]; exact hk))
          obtain ⟨o, ho⟩ : ∃ o, l.getD k el0 = o := ⟨_, rfl⟩
          rw [ho] at hs hok
          have HS := Lib.hid hs
          have HOK := Lib.hid hok
          have HGX := Lib.hid (show g < X by have := HXZ.out; have : g < w.heap.size := hgx; omega)
          clear hs hs0 hok ho hcc hk hgx
          go_wp2_with fail
          refine wp_region_held_drew (S := fun wq => wq.rangeAt g (ob + k * 10) o.vals) (by kernel_rfl) HS.out (fun hHeld => ?_)
          refine wpAnyH_take (i := 0) (v := .slice (some ⟨g, ob, none⟩) n lc) rfl (by kernel_rfl) (by kernel_rfl) (by kernel_rfl) (fun _ _ _ h => h) (Or.inl ⟨by rfl, ?yq1⟩) (by assumption) ?rq1
          case yq1 => (intro wq hSw; (try simp only [List.getElem_toArray, List.getElem_cons_zero, List.getElem_cons_succ]); go_simp; (try with_reducible rfl); all_goals (try omega))
          case rq1 =>
          try simp only [Act.put, List.setIfInBounds_toArray, List.set_cons_zero, List.set_cons_succ, List.getElem_toArray, List.getElem_cons_zero, List.getElem_cons_succ]
          refine wpAnyH_take (i := 1) (v := .int .i64 (k : Int)) rfl (by kernel_rfl) (by kernel_rfl) (by kernel_rfl) (fun _ _ _ h => h) (Or.inl ⟨by rfl, ?yq2⟩) (by assumption) ?rq2
          case yq2 => (intro wq hSw; (try simp only [List.getElem_toArray, List.getElem_cons_zero, List.getElem_cons_succ]); go_simp; (try with_reducible rfl); all_goals (try omega))
          case rq2 =>
          try simp only [Act.put, List.setIfInBounds_toArray, List.set_cons_zero, List.set_cons_succ, List.getElem_toArray, List.getElem_cons_zero, List.getElem_cons_succ]
          refine wpAnyH_take (i := 2) (v := .pointer (some ⟨g, ob + k * 10, none⟩)) rfl (by kernel_rfl) (by kernel_rfl) (by kernel_rfl) (fun _ _ _ h => h) (Or.inl ⟨by rfl, ?yq3⟩) (by assumption) ?rq3
          case yq3 => (intro wq hSw; (try simp only [List.getElem_toArray, List.getElem_cons_zero, List.getElem_cons_succ]); go_simp; (try with_reducible rfl); all_goals (try omega))
          case rq3 =>
          try simp only [Act.put, List.setIfInBounds_toArray, List.set_cons_zero, List.set_cons_succ, List.getElem_toArray, List.getElem_cons_zero, List.getElem_cons_succ]
          refine wpAnyH_take (i := 3) (v := .agg o.vals.toArray) rfl (by kernel_rfl) (by kernel_rfl) (by kernel_rfl) (fun _ _ _ h => h) (Or.inl ⟨by rfl, ?yq4⟩) (by assumption) ?rq4
          case yq4 => (intro wq hSw; exact exec_load_mid _ _ 24 (.tmp 71) rfl g (ob + k * 10) rfl o.vals _ _ hSw Try.underlying24 rfl el_info)
          case rq4 =>
          try simp only [Act.put, List.setIfInBounds_toArray, List.set_cons_zero, List.set_cons_succ, List.getElem_toArray, List.getElem_cons_zero, List.getElem_cons_succ]
          refine wpAnyH_take (i := 4) (v := .pointer (some ⟨X, 11, none⟩)) rfl (by kernel_rfl) (by kernel_rfl) (by kernel_rfl) (fun _ _ _ h => h) (Or.inl ⟨by rfl, ?yq5⟩) (by assumption) ?rq5
          case yq5 => (intro wq hSw; (try simp only [List.getElem_toArray, List.getElem_cons_zero, List.getElem_cons_succ]); go_simp; (try with_reducible rfl); all_goals (try omega))
          case rq5 =>
          try simp only [Act.put, List.setIfInBounds_toArray, List.set_cons_zero, List.set_cons_succ, List.getElem_toArray, List.getElem_cons_zero, List.getElem_cons_succ]
          refine wpAnyH_ready (rs := [5]) (by kernel_rfl) (by simp) ?_
          refine AllReadyH.cons rfl (fun K hK => ?_) AllReadyH.nil
          go_simp
          refine hK.out _ _ HS.out (fun _ => ?_)
          clear hK K
          try simp only [Act.put, List.setIfInBounds_toArray, List.set_cons_zero, List.set_cons_succ, List.getElem_toArray, List.getElem_cons_zero, List.getElem_cons_succ]
          refine wpAnyH_ready (rs := [6]) (by kernel_rfl) (by simp) ?_
          refine AllReadyH.cons rfl (fun K hK => ?_) AllReadyH.nil
          go_simp
          refine (value_any w7.drew o z7.f HOK.out).mono ?_
          rintro r wd ⟨rfl, td⟩
          have td' := (Turn.refl (fun _ => False) w7).drew.trans td (fun _ _ => id)
          have HSd := Lib.hid (rangeAt_turn HS.out td' id)
          have HXd := Lib.hid ((td'.block X (Array.getElem?_eq_some_iff.1 HX7.out).1 id).trans HX7.out)
          have HZd := Lib.hid ((td'.block Z (Array.getElem?_eq_some_iff.1 HZ7.out).1 id).trans HZ7.out)
          have Td := Lib.hid (T7.out.trans td' (fun _ _ => id))
          have Kd := K7
          clear td td'
          refine hK.out _ _ HSd.out (fun _ => ?_)
          clear hK K
          try simp only [Act.put, List.setIfInBounds_toArray, List.set_cons_zero, List.set_cons_succ, List.getElem_toArray, List.getElem_cons_zero, List.getElem_cons_succ]
          refine wpAnyH_take (i := 7) (v := .pointer (some ⟨X, 12, none⟩)) rfl (by kernel_rfl) (by kernel_rfl) (by kernel_rfl) (fun _ _ _ h => h) (Or.inl ⟨by rfl, ?yq6⟩) (by assumption) ?rq6
          case yq6 => (intro wq hSw; (try simp only [List.getElem_toArray, List.getElem_cons_zero, List.getElem_cons_succ]); go_simp; (try with_reducible rfl); all_goals (try omega))
          case rq6 =>
          try simp only [Act.put, List.setIfInBounds_toArray, List.set_cons_zero, List.set_cons_succ, List.getElem_toArray, List.getElem_cons_zero, List.getElem_cons_succ]
          refine wpAnyH_ready (rs := [8]) (by kernel_rfl) (by simp) ?_
          refine AllReadyH.cons rfl (fun K hK => ?_) AllReadyH.nil
          rw [if_pos (by rfl)]
          refine wp_mid wd X 12 28 26 z7.vals (vl (getN o z7.f) (getS o z7.f)) HXd.out (by show 14 ≤ 16; decide) (vl_one _ _) vl_info (.tmp 76) (.tmp 75) rfl rfl rfl (fun w20 h20 t20 => ?_)
          have HSe := Lib.hid (rangeAt_turn HSd.out t20 (fun e => by have := HGX.out; omega))
          obtain ⟨z20, hx20, hk20⟩ := exO h20
          have HX20 := Lib.hid hx20
          have K20 := Lib.hid (show 0 ≤ z20.e.kind ∧ z20.e.kind ≤ 255 by rw [hk20]; exact Kd.out)
          have HZ20 := Lib.hid ((t20.block Z (Array.getElem?_eq_some_iff.1 HZd.out).1 (fun e => by have := HXZ.out; omega)).trans HZd.out)
          have T20 := Lib.hid (Td.out.trans t20 (fun q hq e => by have := HXZ.out; omega))
          clear h20 t20 hx20 hk20 c0 c1 c3 c11 c12 c14
          obtain ⟨c0, c1, c3, c11, c12, c14⟩ := edC (range_of HX20.out)
          simp only [Nat.zero_add] at c0 c1 c3 c11 c12 c14
          refine hK.out _ _ HSe.out (fun _ => ?_)
          clear hK K
          try simp only [Act.put, List.setIfInBounds_toArray, List.set_cons_zero, List.set_cons_succ, List.getElem_toArray, List.getElem_cons_zero, List.getElem_cons_succ]
          refine wpAnyH_done (by kernel_rfl) ?_ _
          clear hHeld
          go_wp2_with (with_reducible (show wpList _ _ _ (Oper.mk (some 77) (.load 28 (.tmp 4)) _ _ _ _ :: _) _ _); refine still ?_)
          refine wpList_load_mid rfl 28 (.tmp 4) rfl X 0 rfl z20.vals _ (range_of HX20.out) Try.underlying28 rfl ed_info ?_
          go_wp2_with (with_reducible (show wpList _ _ _ (Oper.mk none (.store 28 (.tmp 6) (.tmp 77)) _ _ _ _ :: _) _ _); refine still ?_)
          refine list_put w20 Z 28 ed0.vals z20.vals HZ20.out rfl z20.vals_one ed_info rfl (.tmp 6) (.tmp 77) rfl rfl rfl (fun w99 h99 t99 => ?_)
          have H99 := Lib.hid h99
          have T99 := Lib.hid (T20.out.trans t99 (fun q hq e => by have := HXZ.out; omega))
          clear h99 t99
          go_wp2_with fail
          refine bodyPost_ret (run_cell Try.f10 6 28 (by kernel_rfl) Z _ w99 (range_of H99.out) Try.underlying28 rfl ed_info _ rfl) rfl ?_
          exact ⟨z20, rfl, K20.out, T99.out⟩
        · go_wp2_with (with_reducible (show wpList _ _ _ (Oper.mk (some 77) (.load 28 (.tmp 4)) _ _ _ _ :: _) _ _); refine still ?_)
          refine wpList_load_mid rfl 28 (.tmp 4) rfl X 0 rfl z7.vals _ (range_of HX7.out) Try.underlying28 rfl ed_info ?_
          go_wp2_with (with_reducible (show wpList _ _ _ (Oper.mk none (.store 28 (.tmp 6) (.tmp 77)) _ _ _ _ :: _) _ _); refine still ?_)
          refine list_put w7 Z 28 ed0.vals z7.vals HZ7.out rfl z7.vals_one ed_info rfl (.tmp 6) (.tmp 77) rfl rfl rfl (fun w99 h99 t99 => ?_)
          have H99 := Lib.hid h99
          have T99 := Lib.hid (T7.out.trans t99 (fun q hq e => by have := HXZ.out; omega))
          clear h99 t99
          go_wp2_with fail
          refine bodyPost_ret (run_cell Try.f10 6 28 (by kernel_rfl) Z _ w99 (range_of H99.out) Try.underlying28 rfl ed_info _ rfl) rfl ?_
          exact ⟨z7, rfl, K7.out, T99.out⟩
  · go_wp2_with (with_reducible (show wpList _ _ _ (Oper.mk (some 12) (.load 28 (.tmp 4)) _ _ _ _ :: _) _ _); refine still ?_)
    refine wpList_load_mid rfl 28 (.tmp 4) rfl X 0 rfl x.vals _ (range_of HX2.out) Try.underlying28 rfl ed_info ?_
    go_wp2_with (with_reducible (show wpList _ _ _ (Oper.mk none (.store 28 (.tmp 6) (.tmp 12)) _ _ _ _ :: _) _ _); refine still ?_)
    refine list_put w2 Z 28 ed0.vals x.vals HZ2.out rfl x.vals_one ed_info rfl (.tmp 6) (.tmp 12) rfl rfl rfl (fun w99 h99 t99 => ?_)
    have H99 := Lib.hid h99
    have T99 := Lib.hid (T2.out.trans t99 (fun q hq e => by have := HXZ.out; omega))
    clear h99 t99
    go_wp2_with fail
    refine bodyPost_ret (run_cell Try.f10 6 28 (by kernel_rfl) Z _ w99 (range_of H99.out) Try.underlying28 rfl ed_info _ rfl) rfl ?_
    exact ⟨x, rfl, K2.out, T99.out⟩

end Go.Proofs.Ytbokdgcdkmnldaa
