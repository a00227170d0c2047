/- Own contracts: edits: may. No statement is proved here. -/
import Derived.Test.YtbokdgcdkmnldaaEc
import Derived.Test.YtbokdgcdkmnldaaWs
import Derived.Deep.RegionHeld3
namespace Go.Proofs.Ytbokdgcdkmnldaa
set_option maxRecDepth 100000
open Go.RowKit
set_option linter.unusedVariables false
set_option linter.unusedSimpArgs false

theorem place_get {l : List El} {nr : Int} {p : Nat} (hr : Rises l) (h : IsPlace l nr p) : (thereB l nr p = true ∧ getE l nr = some (findX l nr p)) ∨ (thereB l nr p = false ∧ getE l nr = none ∧ findX l nr p = el0) := by
  cases ht : thereB l nr p
  · refine .inr ⟨rfl, getE_none.2 fun x hx e => ?_, by unfold findX; rw [ht]; rfl⟩
    obtain ⟨k, hk, rfl⟩ := List.getElem_of_mem hx
    have hg : l.getD k el0 = l[k] := by simp [List.getD, hk]
    rw [← hg] at e
    have hn : ¬ (p < l.length ∧ (l.getD p el0).id = nr) := by unfold thereB at ht; exact of_decide_eq_false ht
    by_cases h1 : k < p
    · have := h.lo k h1; omega
    · by_cases h2 : k = p
      · subst h2; exact hn ⟨hk, e⟩
      · have h3 := hr.get (i := p) (j := k) (by omega) hk
        have h4 := h.hi p (Nat.le_refl _) (by omega)
        omega
  · have hn : p < l.length ∧ (l.getD p el0).id = nr := by unfold thereB at ht; exact of_decide_eq_true ht
    have e : findX l nr p = l.getD p el0 := by unfold findX; rw [ht]; rfl
    exact .inl ⟨rfl, by rw [e]; exact (getE_iff hr).2 ⟨getD_mem hn.1, hn.2⟩⟩
/-- What Find tells, by the number alone. -/
def Find2 (w : World) (l : List El) (nr : Int) (e : Ending) (w' : World) : Prop := ∃ o b, e = .returned (.tuple #[.agg o.vals.toArray, .bool b]) ∧ ((b = true ∧ getE l nr = some o) ∨ (b = false ∧ getE l nr = none ∧ o = el0)) ∧ Turn (fun _ => False) w w'
theorem find2 (w : World) (v : Value) (l : List El) (nr : Int) (hv : RowV w v l) (hr : Rises l) (hb : l.length ≤ 1000) : Calls Try.prog 24 #[v, .int .i64 nr] w (Find2 w l nr) :=
  (find_any w v l nr hv hr hb).mono fun e w' ⟨p, hp, he, t⟩ => ⟨findX l nr p, thereB l nr p, he, place_get hr hp, t⟩
theorem may_12 {x : Ed} (hid : x.e.id ≠ 0) (ho : x.op = 1 ∨ x.op = 2) : mayB x = decide (x = ⟨x.op, x.e, 0, 0, e0, 0, e0⟩) := by
  obtain ⟨a, e, f, on, os, nn, ns⟩ := x
  simp only at hid ho
  unfold mayB
  simp only [Ed.mk.injEq, true_and, ho]
  rw [decide_eq_true (show e.id ≠ 0 from hid), decide_eq_false (show ¬ (a = 3 ∧ e = El.at e.id) by omega), Bool.true_and, Bool.false_and, Bool.or_false]
  congr 1
  simp only [and_assoc]
theorem may_3 {x : Ed} (hid : x.e.id ≠ 0) (ho : x.op = 3) : mayB x = (decide (x.e = El.at x.e.id) && (fitsB x.f x.on x.os && fitsB x.f x.nn x.ns)) := by
  unfold mayB
  rw [decide_eq_true (show x.e.id ≠ 0 from hid), decide_eq_false (show ¬ ((x.op = 1 ∨ x.op = 2) ∧ x.f = 0 ∧ (x.on = 0 ∧ x.os = e0) ∧ (x.nn = 0 ∧ x.ns = e0)) by omega), Bool.true_and, Bool.false_or]
  simp only [ho, true_and]
theorem may_0 {x : Ed} (ho : x.op ≠ 1 ∧ x.op ≠ 2 ∧ x.op ≠ 3) : mayB x = false := by
  unfold mayB
  rw [decide_eq_false (show ¬ ((x.op = 1 ∨ x.op = 2) ∧ x.f = 0 ∧ (x.on = 0 ∧ x.os = e0) ∧ (x.nn = 0 ∧ x.ns = e0)) by omega), decide_eq_false (show ¬ (x.op = 3 ∧ x.e = El.at x.e.id) by omega)]
  simp
set_option maxHeartbeats 4000000 in
theorem may_any (x : Ed) (w : World) : Calls Try.prog 23 #[.agg x.vals.toArray] w fun e w' => e = .returned (.bool (mayB x)) ∧ Turn (fun _ => False) w w' := by
  have hbx := box_alloc w 28 x.vals
  obtain ⟨X, hX⟩ : ∃ X, w.heap.size = X := ⟨_, rfl⟩
  obtain ⟨w1, hw1⟩ : ∃ w1, w.alloc (.cells x.vals.toArray 28) = w1 := ⟨_, rfl⟩
  rw [hw1] at hbx
  have hh := hbx.heap
  rw [hX] at hh
  have hr := hbx.range
  rw [hX] at hr
  obtain ⟨c0, c1, c3, c11, c12, c14⟩ := edC hr
  simp only [Nat.zero_add] at c0 c1 c3 c11 c12 c14
  have T1 := Lib.hid hbx.turn
  have HR := Lib.hid hr
  have HX := Lib.hid hh
  have HXS := Lib.hid hX
  have HSZ := Lib.hid hbx.size
  clear hbx hr hh
  clear HX HXS HSZ
  by_cases hid : x.e.id = 0
  · have HM := Lib.hid (show mayB x = false by unfold mayB; rw [decide_eq_false (show ¬ x.e.id ≠ 0 by omega)]; rfl)
    have q : (x.e.id == 0) = true := by simpa using hid
    clear hid
    go_enter Try.func23, Try.ntmps23
    go_wp2_with fail
    go_ret
    exact ⟨by rw [HM.out]; rfl, T1.out⟩
  · have q : (x.e.id == 0) = false := by simpa using hid
    by_cases h12 : x.op = 1 ∨ x.op = 2
    · have HM := Lib.hid (may_12 hid h12)
      have HEQ : ∀ ev op, op.op = .binOp .eql 28 (.tmp 12) (.tmp 17) 28 → ev (.tmp 12) = .agg x.vals.toArray → ev (.tmp 17) = .agg (Ed.mk x.op x.e 0 0 e0 0 e0).vals.toArray → ∀ w, (execOp ev op).run Try.prog w = .ok (.value (.bool (mayB x))) w := fun ev op ho h1 h2 w => by rw [HM.out]; exact exec_eql_ed ev op ho x _ w h1 h2
      have HE := Lib.hid HEQ
      clear HEQ hid
      rcases h12 with ho | ho
      · have q1 : (x.op == 1) = true := by rw [ho]; rfl
        clear ho
        go_enter Try.func23, Try.ntmps23
        go_wp2_with (with_reducible (show wpList _ _ _ (Oper.mk (some 12) (.load 28 (.tmp 1)) _ _ _ _ :: _) _ _); refine still ?_)
        refine wpList_load_mid rfl 28 (.tmp 1) rfl X 0 rfl x.vals _ HR.out Try.underlying28 rfl ed_info ?_
        go_wp2_with (with_reducible (show wpList _ _ _ (Oper.mk (some 16) (.load 24 (.tmp 15)) _ _ _ _ :: _) _ _); refine still ?_)
        refine wpList_load_mid rfl 24 (.tmp 15) rfl X 1 rfl x.e.vals _ (by have := edE HR.out; rwa [Nat.zero_add] at this) Try.underlying24 rfl el_info ?_
        go_wp2_with (with_reducible (show wpList _ _ _ (Oper.mk (some 17) (.build 28 _) _ _ _ _ :: _) _ _); refine still ?_)
        refine list_exec rfl _ _ (exec_edB _ _ _ _ x.op x.e rfl rfl rfl _) ?_
        go_wp2_with (with_reducible (show wpList _ _ _ (Oper.mk (some 18) (_) _ _ _ _ :: _) _ _); refine still ?_)
        refine list_exec rfl _ _ (HE.out _ _ rfl rfl rfl _) ?_
        go_wp2_with fail
        go_ret
        exact ⟨rfl, T1.out⟩
      · have q1 : (x.op == 1) = false := by rw [ho]; rfl
        have q2 : (x.op == 2) = true := by rw [ho]; rfl
        clear ho
        go_enter Try.func23, Try.ntmps23
        go_wp2_with (with_reducible (show wpList _ _ _ (Oper.mk (some 12) (.load 28 (.tmp 1)) _ _ _ _ :: _) _ _); refine still ?_)
        refine wpList_load_mid rfl 28 (.tmp 1) rfl X 0 rfl x.vals _ HR.out Try.underlying28 rfl ed_info ?_
        go_wp2_with (with_reducible (show wpList _ _ _ (Oper.mk (some 16) (.load 24 (.tmp 15)) _ _ _ _ :: _) _ _); refine still ?_)
        refine wpList_load_mid rfl 24 (.tmp 15) rfl X 1 rfl x.e.vals _ (by have := edE HR.out; rwa [Nat.zero_add] at this) Try.underlying24 rfl el_info ?_
        go_wp2_with (with_reducible (show wpList _ _ _ (Oper.mk (some 17) (.build 28 _) _ _ _ _ :: _) _ _); refine still ?_)
        refine list_exec rfl _ _ (exec_edB _ _ _ _ x.op x.e rfl rfl rfl _) ?_
        go_wp2_with (with_reducible (show wpList _ _ _ (Oper.mk (some 18) (_) _ _ _ _ :: _) _ _); refine still ?_)
        refine list_exec rfl _ _ (HE.out _ _ rfl rfl rfl _) ?_
        go_wp2_with fail
        go_ret
        exact ⟨rfl, T1.out⟩
    · by_cases ho : x.op = 3
      · have HM := Lib.hid (may_3 hid ho)
        have q1 : (x.op == 1) = false := by rw [ho]; rfl
        have q2 : (x.op == 2) = false := by rw [ho]; rfl
        have q3 : (x.op == 3) = true := by rw [ho]; rfl
        have HEL := Lib.hid (fun ev op (ho : op.op = .binOp .eql 24 (.tmp 22) (.tmp 26) 24) h1 h2 w => exec_eql_el ev op ho x.e (El.at x.e.id) w h1 h2)
        have HF1 := Lib.hid (fun w => fits_any w x.f x.on x.os)
        have HF2 := Lib.hid (fun w => fits_any w x.f x.nn x.ns)
        obtain ⟨B1, hB1⟩ : ∃ B, decide (x.e = El.at x.e.id) = B := ⟨_, rfl⟩
        obtain ⟨F1, hF1⟩ : ∃ B, fitsB x.f x.on x.os = B := ⟨_, rfl⟩
        obtain ⟨F2, hF2⟩ : ∃ B, fitsB x.f x.nn x.ns = B := ⟨_, rfl⟩
        simp only [hB1] at HEL
        simp only [hF1] at HF1
        simp only [hF2] at HF2
        rw [hB1, hF1, hF2] at HM
        clear hid ho hB1 hF1 hF2 h12
        cases B1
        · go_enter Try.func23, Try.ntmps23
          go_wp2_with (with_reducible (show wpList _ _ _ (Oper.mk (some 22) (.load 24 (.tmp 21)) _ _ _ _ :: _) _ _); refine still ?_)
          refine wpList_load_mid rfl 24 (.tmp 21) rfl X 1 rfl x.e.vals _ (by have := edE HR.out; rwa [Nat.zero_add] at this) Try.underlying24 rfl el_info ?_
          go_wp2_with (with_reducible (show wpList _ _ _ (Oper.mk (some 26) (.build 24 _) _ _ _ _ :: _) _ _); refine still ?_)
          refine list_exec rfl _ _ (exec_build_at _ _ _ x.e.id rfl rfl _) ?_
          go_wp2_with (with_reducible (show wpList _ _ _ (Oper.mk (some 27) (_) _ _ _ _ :: _) _ _); refine still ?_)
          refine list_exec rfl _ _ (HEL.out _ _ rfl rfl rfl _) ?_
          go_wp2_with fail
          go_ret
          exact ⟨by rw [HM.out]; rfl, T1.out⟩
        · cases F1
          · go_enter Try.func23, Try.ntmps23
            go_wp2_with (with_reducible (show wpList _ _ _ (Oper.mk (some 22) (.load 24 (.tmp 21)) _ _ _ _ :: _) _ _); refine still ?_)
            refine wpList_load_mid rfl 24 (.tmp 21) rfl X 1 rfl x.e.vals _ (by have := edE HR.out; rwa [Nat.zero_add] at this) Try.underlying24 rfl el_info ?_
            go_wp2_with (with_reducible (show wpList _ _ _ (Oper.mk (some 26) (.build 24 _) _ _ _ _ :: _) _ _); refine still ?_)
            refine list_exec rfl _ _ (exec_build_at _ _ _ x.e.id rfl rfl _) ?_
            go_wp2_with (with_reducible (show wpList _ _ _ (Oper.mk (some 27) (_) _ _ _ _ :: _) _ _); refine still ?_)
            refine list_exec rfl _ _ (HEL.out _ _ rfl rfl rfl _) ?_
            go_wp2_with (with_reducible (show wpList _ _ _ (Oper.mk (some 32) (.load 26 (.tmp 31)) _ _ _ _ :: _) _ _); refine still ?_)
            refine wpList_exec_want (by rfl) _ _ (exec_load_mid _ _ 26 (.tmp 31) rfl X 12 rfl (vl x.on x.os) _ _ (by have := edO HR.out; rwa [Nat.zero_add] at this) Try.underlying26 rfl vl_info) ?_
            go_wp2_with (go_at_call 40; refine (HF1.out w1).mono ?_; rintro r w2 ⟨rfl, t2⟩; have HR2 := Lib.hid (rangeAt_turn HR.out t2 id); have T2 := Lib.hid (T1.out.trans t2 (fun _ _ => id)); clear t2 c0 c1 c3 c11 c12 c14; obtain ⟨c0, c1, c3, c11, c12, c14⟩ := edC HR2.out; simp only [Nat.zero_add] at c0 c1 c3 c11 c12 c14; refine still ?_)
            unfold Still
            go_wp2_with fail
            go_ret
            exact ⟨by rw [HM.out]; rfl, T2.out⟩
          · go_enter Try.func23, Try.ntmps23
            go_wp2_with (with_reducible (show wpList _ _ _ (Oper.mk (some 22) (.load 24 (.tmp 21)) _ _ _ _ :: _) _ _); refine still ?_)
            refine wpList_load_mid rfl 24 (.tmp 21) rfl X 1 rfl x.e.vals _ (by have := edE HR.out; rwa [Nat.zero_add] at this) Try.underlying24 rfl el_info ?_
            go_wp2_with (with_reducible (show wpList _ _ _ (Oper.mk (some 26) (.build 24 _) _ _ _ _ :: _) _ _); refine still ?_)
            refine list_exec rfl _ _ (exec_build_at _ _ _ x.e.id rfl rfl _) ?_
            go_wp2_with (with_reducible (show wpList _ _ _ (Oper.mk (some 27) (_) _ _ _ _ :: _) _ _); refine still ?_)
            refine list_exec rfl _ _ (HEL.out _ _ rfl rfl rfl _) ?_
            go_wp2_with (with_reducible (show wpList _ _ _ (Oper.mk (some 32) (.load 26 (.tmp 31)) _ _ _ _ :: _) _ _); refine still ?_)
            refine wpList_exec_want (by rfl) _ _ (exec_load_mid _ _ 26 (.tmp 31) rfl X 12 rfl (vl x.on x.os) _ _ (by have := edO HR.out; rwa [Nat.zero_add] at this) Try.underlying26 rfl vl_info) ?_
            go_wp2_with (go_at_call 40; refine (HF1.out w1).mono ?_; rintro r w2 ⟨rfl, t2⟩; have HR2 := Lib.hid (rangeAt_turn HR.out t2 id); have T2 := Lib.hid (T1.out.trans t2 (fun _ _ => id)); clear t2 c0 c1 c3 c11 c12 c14; obtain ⟨c0, c1, c3, c11, c12, c14⟩ := edC HR2.out; simp only [Nat.zero_add] at c0 c1 c3 c11 c12 c14; refine still ?_)
            unfold Still
            go_wp2_with (with_reducible (show wpList _ _ _ (Oper.mk (some 39) (.load 26 (.tmp 38)) _ _ _ _ :: _) _ _); refine still ?_)
            refine wpList_exec_want (by rfl) _ _ (exec_load_mid _ _ 26 (.tmp 38) rfl X 14 rfl (vl x.nn x.ns) _ _ (by have := edN HR2.out; rwa [Nat.zero_add] at this) Try.underlying26 rfl vl_info) ?_
            go_wp2_with (go_at_call 40; refine (HF2.out w2).mono ?_; rintro r w3 ⟨rfl, t3⟩)
            go_ret
            exact ⟨by rw [HM.out]; cases F2 <;> rfl, T2.out.trans t3 (fun _ _ => id)⟩
      · have HM := Lib.hid (may_0 (x := x) (by omega))
        have q1 : (x.op == 1) = false := by simpa using (show ¬ x.op = 1 by omega)
        have q2 : (x.op == 2) = false := by simpa using (show ¬ x.op = 2 by omega)
        have q3 : (x.op == 3) = false := by simpa using ho
        clear hid ho h12
        go_enter Try.func23, Try.ntmps23
        go_wp2_with fail
        go_ret
        exact ⟨by rw [HM.out]; rfl, T1.out⟩

end Go.Proofs.Ytbokdgcdkmnldaa
