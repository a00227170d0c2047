/- Own contracts: edits: one, by the document (3). No statement is proved here. -/
import Derived.Test.YtbokdgcdkmnldaaEj1
import Derived.Deep.RegionHeld3
namespace Go.Proofs.Ytbokdgcdkmnldaa
set_option maxRecDepth 100000
open Go.RowKit
set_option linter.unusedVariables false
set_option linter.unusedSimpArgs false

set_option maxHeartbeats 8000000 in
theorem rone_3 (w : World) (v : Value) (l : List El) (x : Ed) (hv : RowV w v l) (hb : l.length ≤ 1000) (hk : KOk l) (hk0 : x.op = 3) : Calls Try.prog 12 #[v, .agg x.vals.toArray] w (OneP w (oneE l x)) := by
  obtain ⟨la, lc, rfl⟩ := hv.form
  obtain ⟨n, hn⟩ : ∃ n, l.length = n := ⟨_, rfl⟩
  simp only [hn] at hv ⊢
  have hbn : n ≤ 1000 := by rw [← hn]; exact hb
  have hbx := box_alloc w 28 x.vals
  obtain ⟨X, hX⟩ : ∃ X, w.heap.size = X := ⟨_, rfl⟩
  obtain ⟨w1, hw1⟩ : ∃ w1, w.alloc (.cells x.vals.toArray 28) = w1 := ⟨_, rfl⟩
  rw [hw1] at hbx
  have hh := hbx.heap
  rw [hX] at hh
  have hr := hbx.range
  rw [hX] at hr
  obtain ⟨c0, c1, c3, c11, c12, c14⟩ := edC hr
  simp only [Nat.zero_add] at c0 c1 c3 c11 c12 c14
  have T1 := Lib.hid hbx.turn
  have HR := Lib.hid hr
  have HX := Lib.hid hh
  have HXS := Lib.hid hX
  have HSZ := Lib.hid hbx.size
  clear hbx hr hh
  clear HX HXS HSZ
  have HV1 := Lib.hid (hv.turn T1.out (fun _ _ => id))
  have HKO := Lib.hid hk
  have HN := Lib.hid hn
  have HB := Lib.hid hb
  have HK0 := Lib.hid hk0
  clear hv hk hn hb hk0
  have HR1 := HR
  go_enter Try.func12, Try.ntmps12
  go_wp2_with fail
  refine (rrises_any w1 _ l HV1.out (by have := HB.out; omega)).mono ?_
  rintro r w2 ⟨rfl, t2⟩
  have T2 := Lib.hid (T1.out.trans t2 (fun _ _ => id))
  have HV2 := Lib.hid (HV1.out.turn t2 (fun _ _ => id))
  have HR2 := Lib.hid (rangeAt_turn HR1.out t2 id)
  clear t2 c0 c1 c3 c11 c12 c14
  obtain ⟨c0, c1, c3, c11, c12, c14⟩ := edC HR2.out
  simp only [Nat.zero_add] at c0 c1 c3 c11 c12 c14
  cases hrs : risesB l
  · have HOE := Lib.hid (show oneE l x = ([], 7) by unfold oneE; simp [hrs])
    go_wp2_with fail
    go_ret2
    refine ⟨_, by rw [HOE.out]; rfl, by rw [HOE.out]; exact .inl ⟨rfl, rfl⟩, T2.out, ty24_nil _⟩
  · have HRS := Lib.hid ((risesB_iff l).1 hrs)
    obtain ⟨Y, hY⟩ : ∃ Z, w2.heap.size = Z := ⟨_, rfl⟩
    obtain ⟨w3, hw3⟩ : ∃ wz, w2.alloc (.cells (vl 0 e0).toArray 26) = wz := ⟨_, rfl⟩
    have hx0 : ∀ ev op, op.op = .alloc 26 → (execOp ev op).run Try.prog w2 = .ok (.value (.pointer (some ⟨Y, 0, none⟩))) w3 := fun ev op ho => by rw [← hw3, ← hY]; exact exec_zero37 ev op ho _
    have hb0 := box_alloc w2 26 (vl 0 e0)
    rw [hw3] at hb0
    have hh0 := hb0.heap
    rw [hY] at hh0
    have HXX0 := Lib.hid hx0
    have HB0 := Lib.hid hb0
    have HH0 := Lib.hid hh0
    have HE0 := Lib.hid hY
    clear hb0 hY hw3 hx0 hh0
    go_wp2_with (with_reducible (show wpList _ _ _ (Oper.mk (some 11) (.build 26 _) _ _ _ _ :: _) _ _); refine still ?_)
    refine list_exec rfl _ _ (exec_vl0 _ _ rfl _) ?_
    go_wp2_with (with_reducible (show wpList _ _ _ (Oper.mk (some 6) (.alloc 26) _ _ _ _ :: _) _ _); refine still ?_)
    refine list_exec rfl _ _ (HXX0.out _ _ rfl) ?_
    go_wp2_with (with_reducible (show wpList _ _ _ (Oper.mk none (.store 26 (.tmp 6) (.tmp 11)) _ _ _ _ :: _) _ _); refine still ?_)
    refine list_put w3 Y 26 (vl 0 e0) (vl 0 e0) HH0.out rfl (vl_one _ _) vl_info rfl (.tmp 6) (.tmp 11) rfl rfl rfl (fun w4 h4 t4 => ?_)
    have t4' := HB0.out.turn.trans t4 (fun q hq e => by have := HE0.out; omega)
    have HY4 := Lib.hid (range_of h4)
    clear h4 t4
    have T4 := Lib.hid (T2.out.trans t4' (fun _ _ => id))
    have HV4 := Lib.hid (HV2.out.turn t4' (fun _ _ => id))
    have HR4 := Lib.hid (rangeAt_turn HR2.out t4' id)
    clear t4' c0 c1 c3 c11 c12 c14
    obtain ⟨c0, c1, c3, c11, c12, c14⟩ := edC HR4.out
    simp only [Nat.zero_add] at c0 c1 c3 c11 c12 c14
    have HO4 := Lib.hid (show w4.rangeAt X 12 (vl x.on x.os) by have := edO HR4.out; rwa [Nat.zero_add] at this)
    have HN4 := Lib.hid (show w4.rangeAt X 14 (vl x.nn x.ns) by have := edN HR4.out; rwa [Nat.zero_add] at this)
    have HE4 := Lib.hid (show w4.rangeAt X 1 x.e.vals by have := edE HR4.out; rwa [Nat.zero_add] at this)
    have HLK := Lib.hid (fun nr => rlacks_any w4 (.slice la n lc) l nr HV4.out HRS.out HB.out)
    have HPR := Lib.hid (fun nr => rpar_any w4 (.slice la n lc) l nr HV4.out HB.out)
    by_cases hop : x.op = 1 ∨ x.op = 2 ∨ x.op = 3
    · by_cases hid : x.e.id = 0
      · have hm : mayB x = false := by unfold mayB; rw [decide_eq_false (show ¬ x.e.id ≠ 0 by omega)]; rfl
        have HOE := Lib.hid (show oneE l x = ([], 1) by unfold oneE; simp [hrs, hm])
        rw [hid] at c1
        clear hm hid
        rcases hop with ho | ho | ho
        · rw [ho] at c0
          clear ho
          go_wp2_with fail
          go_ret2
          refine ⟨_, by rw [HOE.out]; rfl, by rw [HOE.out]; exact .inl ⟨rfl, rfl⟩, T4.out, ty24_nil _⟩
        · rw [ho] at c0
          clear ho
          go_wp2_with fail
          go_ret2
          refine ⟨_, by rw [HOE.out]; rfl, by rw [HOE.out]; exact .inl ⟨rfl, rfl⟩, T4.out, ty24_nil _⟩
        · rw [ho] at c0
          clear ho
          go_wp2_with fail
          go_ret2
          refine ⟨_, by rw [HOE.out]; rfl, by rw [HOE.out]; exact .inl ⟨rfl, rfl⟩, T4.out, ty24_nil _⟩
      · have q0 : (x.e.id == 0) = false := by simpa using hid
        rcases hop with ho | ho | ho
        · have e := HK0.out
          omega
        · have e := HK0.out
          omega
        · rw [ho] at c0
          have hm0 := may_3 hid ho
          have HEL := Lib.hid (fun ev op (ho : op.op = .binOp .neq 24 (.tmp 51) (.tmp 55) 24) h1 h2 w => exec_neq_el ev op ho x.e (El.at x.e.id) w h1 h2)
          have HF1 := Lib.hid (fun w => rfits_any w x.f x.on x.os)
          have HF2 := Lib.hid (fun w => rfits_any w x.f x.nn x.ns)
          obtain ⟨B1, hB1⟩ : ∃ B, decide (x.e = El.at x.e.id) = B := ⟨_, rfl⟩
          obtain ⟨F1, hF1⟩ : ∃ B, fitsB x.f x.on x.os = B := ⟨_, rfl⟩
          obtain ⟨F2, hF2⟩ : ∃ B, fitsB x.f x.nn x.ns = B := ⟨_, rfl⟩
          simp only [hB1] at HEL
          simp only [hF1] at HF1
          simp only [hF2] at HF2
          rw [hB1, hF1, hF2] at hm0
          clear hid hB1 hF1 hF2
          cases B1
          · have hm : mayB x = false := hm0
            have HOE := Lib.hid (show oneE l x = ([], 1) by unfold oneE; simp [hrs, hm])
            clear hm hm0
            go_wp2_with (with_reducible (show wpList _ _ _ (Oper.mk (some 51) (.load 24 (.tmp 50)) _ _ _ _ :: _) _ _); refine still ?_)
            refine wpList_exec_want (by rfl) _ _ (exec_load_mid _ _ 24 (.tmp 50) rfl X 1 rfl x.e.vals _ _ HE4.out Try.underlying24 rfl el_info) ?_
            go_wp2_with (with_reducible (show wpList _ _ _ (Oper.mk (some 55) (.build 24 _) _ _ _ _ :: _) _ _); refine still ?_)
            refine wpList_exec_want (by rfl) _ _ (exec_build_at _ _ _ x.e.id rfl rfl _) ?_
            go_wp2_with (with_reducible (show wpList _ _ _ (Oper.mk (some 56) (_) _ _ _ _ :: _) _ _); refine still ?_)
            refine wpList_exec_want (by rfl) _ _ (HEL.out _ _ rfl rfl rfl _) ?_
            go_wp2_with fail
            go_ret2
            refine ⟨_, by rw [HOE.out]; rfl, by rw [HOE.out]; exact .inl ⟨rfl, rfl⟩, T4.out, ty24_nil _⟩
          · cases F1
            · have hm : mayB x = false := hm0
              have HOE := Lib.hid (show oneE l x = ([], 1) by unfold oneE; simp [hrs, hm])
              clear hm hm0
              go_wp2_with (with_reducible (show wpList _ _ _ (Oper.mk (some 51) (.load 24 (.tmp 50)) _ _ _ _ :: _) _ _); refine still ?_)
              refine wpList_exec_want (by rfl) _ _ (exec_load_mid _ _ 24 (.tmp 50) rfl X 1 rfl x.e.vals _ _ HE4.out Try.underlying24 rfl el_info) ?_
              go_wp2_with (with_reducible (show wpList _ _ _ (Oper.mk (some 55) (.build 24 _) _ _ _ _ :: _) _ _); refine still ?_)
              refine wpList_exec_want (by rfl) _ _ (exec_build_at _ _ _ x.e.id rfl rfl _) ?_
              go_wp2_with (with_reducible (show wpList _ _ _ (Oper.mk (some 56) (_) _ _ _ _ :: _) _ _); refine still ?_)
              refine wpList_exec_want (by rfl) _ _ (HEL.out _ _ rfl rfl rfl _) ?_
              go_wp2_with (with_reducible (show wpList _ _ _ (Oper.mk (some 61) (.load 26 (.tmp 60)) _ _ _ _ :: _) _ _); refine still ?_)
              refine wpList_exec_want (by rfl) _ _ (exec_load_mid _ _ 26 (.tmp 60) rfl X 12 rfl (vl x.on x.os) _ _ HO4.out Try.underlying26 rfl vl_info) ?_
              go_wp2_with (go_at_call 31; refine (HF1.out w4).mono ?_; rintro r w5 ⟨rfl, t5⟩; have T5 := Lib.hid (T4.out.trans t5 (fun _ _ => id)); have HV5 := Lib.hid (HV4.out.turn t5 (fun _ _ => id)); have HR5 := Lib.hid (rangeAt_turn HR4.out t5 id); clear t5 c0 c1 c3 c11 c12 c14; obtain ⟨c0, c1, c3, c11, c12, c14⟩ := edC HR5.out; simp only [Nat.zero_add] at c0 c1 c3 c11 c12 c14; rw [ho] at c0; refine still ?_)
              unfold Still
              go_wp2_with fail
              go_ret2
              refine ⟨_, by rw [HOE.out]; rfl, by rw [HOE.out]; exact .inl ⟨rfl, rfl⟩, T5.out, ty24_nil _⟩
            · cases F2
              · have hm : mayB x = false := hm0
                have HOE := Lib.hid (show oneE l x = ([], 1) by unfold oneE; simp [hrs, hm])
                clear hm hm0
                go_wp2_with (with_reducible (show wpList _ _ _ (Oper.mk (some 51) (.load 24 (.tmp 50)) _ _ _ _ :: _) _ _); refine still ?_)
                refine wpList_exec_want (by rfl) _ _ (exec_load_mid _ _ 24 (.tmp 50) rfl X 1 rfl x.e.vals _ _ HE4.out Try.underlying24 rfl el_info) ?_
                go_wp2_with (with_reducible (show wpList _ _ _ (Oper.mk (some 55) (.build 24 _) _ _ _ _ :: _) _ _); refine still ?_)
                refine wpList_exec_want (by rfl) _ _ (exec_build_at _ _ _ x.e.id rfl rfl _) ?_
                go_wp2_with (with_reducible (show wpList _ _ _ (Oper.mk (some 56) (_) _ _ _ _ :: _) _ _); refine still ?_)
                refine wpList_exec_want (by rfl) _ _ (HEL.out _ _ rfl rfl rfl _) ?_
                go_wp2_with (with_reducible (show wpList _ _ _ (Oper.mk (some 61) (.load 26 (.tmp 60)) _ _ _ _ :: _) _ _); refine still ?_)
                refine wpList_exec_want (by rfl) _ _ (exec_load_mid _ _ 26 (.tmp 60) rfl X 12 rfl (vl x.on x.os) _ _ HO4.out Try.underlying26 rfl vl_info) ?_
                go_wp2_with (go_at_call 31; refine (HF1.out w4).mono ?_; rintro r w5 ⟨rfl, t5⟩; have T5 := Lib.hid (T4.out.trans t5 (fun _ _ => id)); have HV5 := Lib.hid (HV4.out.turn t5 (fun _ _ => id)); have HR5 := Lib.hid (rangeAt_turn HR4.out t5 id); clear t5 c0 c1 c3 c11 c12 c14; obtain ⟨c0, c1, c3, c11, c12, c14⟩ := edC HR5.out; simp only [Nat.zero_add] at c0 c1 c3 c11 c12 c14; rw [ho] at c0; refine still ?_)
                unfold Still
                go_wp2_with (with_reducible (show wpList _ _ _ (Oper.mk (some 69) (.load 26 (.tmp 68)) _ _ _ _ :: _) _ _); refine still ?_)
                refine wpList_exec_want (by rfl) _ _ (exec_load_mid _ _ 26 (.tmp 68) rfl X 14 rfl (vl x.nn x.ns) _ _ (by have := edN HR5.out; rwa [Nat.zero_add] at this) Try.underlying26 rfl vl_info) ?_
                go_wp2_with (go_at_call 31; refine (HF2.out w5).mono ?_; rintro r w6 ⟨rfl, t6⟩; have T6 := Lib.hid (T5.out.trans t6 (fun _ _ => id)); have HV6 := Lib.hid (HV5.out.turn t6 (fun _ _ => id)); have HR6 := Lib.hid (rangeAt_turn HR5.out t6 id); clear t6 c0 c1 c3 c11 c12 c14; obtain ⟨c0, c1, c3, c11, c12, c14⟩ := edC HR6.out; simp only [Nat.zero_add] at c0 c1 c3 c11 c12 c14; rw [ho] at c0; refine still ?_)
                unfold Still
                go_wp2_with fail
                go_ret2
                refine ⟨_, by rw [HOE.out]; rfl, by rw [HOE.out]; exact .inl ⟨rfl, rfl⟩, T6.out, ty24_nil _⟩
              · have hm : mayB x = true := hm0
                clear hm0
                go_wp2_with (with_reducible (show wpList _ _ _ (Oper.mk (some 51) (.load 24 (.tmp 50)) _ _ _ _ :: _) _ _); refine still ?_)
                refine wpList_exec_want (by rfl) _ _ (exec_load_mid _ _ 24 (.tmp 50) rfl X 1 rfl x.e.vals _ _ HE4.out Try.underlying24 rfl el_info) ?_
                go_wp2_with (with_reducible (show wpList _ _ _ (Oper.mk (some 55) (.build 24 _) _ _ _ _ :: _) _ _); refine still ?_)
                refine wpList_exec_want (by rfl) _ _ (exec_build_at _ _ _ x.e.id rfl rfl _) ?_
                go_wp2_with (with_reducible (show wpList _ _ _ (Oper.mk (some 56) (_) _ _ _ _ :: _) _ _); refine still ?_)
                refine wpList_exec_want (by rfl) _ _ (HEL.out _ _ rfl rfl rfl _) ?_
                go_wp2_with (with_reducible (show wpList _ _ _ (Oper.mk (some 61) (.load 26 (.tmp 60)) _ _ _ _ :: _) _ _); refine still ?_)
                refine wpList_exec_want (by rfl) _ _ (exec_load_mid _ _ 26 (.tmp 60) rfl X 12 rfl (vl x.on x.os) _ _ HO4.out Try.underlying26 rfl vl_info) ?_
                go_wp2_with (go_at_call 31; refine (HF1.out w4).mono ?_; rintro r w5 ⟨rfl, t5⟩; have T5 := Lib.hid (T4.out.trans t5 (fun _ _ => id)); have HV5 := Lib.hid (HV4.out.turn t5 (fun _ _ => id)); have HR5 := Lib.hid (rangeAt_turn HR4.out t5 id); clear t5 c0 c1 c3 c11 c12 c14; obtain ⟨c0, c1, c3, c11, c12, c14⟩ := edC HR5.out; simp only [Nat.zero_add] at c0 c1 c3 c11 c12 c14; rw [ho] at c0; refine still ?_)
                unfold Still
                go_wp2_with (with_reducible (show wpList _ _ _ (Oper.mk (some 69) (.load 26 (.tmp 68)) _ _ _ _ :: _) _ _); refine still ?_)
                refine wpList_exec_want (by rfl) _ _ (exec_load_mid _ _ 26 (.tmp 68) rfl X 14 rfl (vl x.nn x.ns) _ _ (by have := edN HR5.out; rwa [Nat.zero_add] at this) Try.underlying26 rfl vl_info) ?_
                go_wp2_with (go_at_call 31; refine (HF2.out w5).mono ?_; rintro r w6 ⟨rfl, t6⟩; have T6 := Lib.hid (T5.out.trans t6 (fun _ _ => id)); have HV6 := Lib.hid (HV5.out.turn t6 (fun _ _ => id)); have HR6 := Lib.hid (rangeAt_turn HR5.out t6 id); clear t6 c0 c1 c3 c11 c12 c14; obtain ⟨c0, c1, c3, c11, c12, c14⟩ := edC HR6.out; simp only [Nat.zero_add] at c0 c1 c3 c11 c12 c14; rw [ho] at c0; refine still ?_)
                unfold Still
                go_wp2_with fail
                refine (rfind2 w6 _ l x.e.id HV6.out HRS.out HB.out).mono ?_
                rintro r w77 ⟨rfl, i, rfl, hc⟩
                rcases hc with ⟨k, hk, rfl, hg⟩ | ⟨rfl, hg⟩
                · have hko := HKO.out _ (getE_some hg).1
                  obtain ⟨g, ob, rfl, hcc, hs⟩ := HV6.out.one HN.out k (by rw [← HN.out]; exact hk)
                  have gk : (0 : Int) ≤ (k : Int) ∧ (k : Int) < (n : Int) := by have := HN.out; omega
                  have dk : decide ((k : Int) < 0) = false := decide_eq_false (by omega)
                  have dk2 : decide (0 ≤ (k : Int)) = true := decide_eq_true (by omega)
                  generalize hx : l.getD k el0 = o at *
                  have HSO := Lib.hid hs
                  clear hx hs hcc hk
                  go_wp2_with fail
                  refine wp_region_held_drew (S := fun wq => wq.rangeAt g (ob + k * 10) o.vals ∧ wq.rangeAt X 0 x.vals) (by kernel_rfl) ⟨HSO.out, HR6.out⟩ (fun hHeld => ?_)
                  refine wpAnyH_take (i := 0) (v := .slice (some ⟨g, ob, none⟩) n lc) rfl (by kernel_rfl) (by kernel_rfl) (by kernel_rfl) (fun _ _ _ h => h) (Or.inl ⟨by rfl, ?yq8⟩) (by assumption) ?rq8
                  case yq8 => (intro wq hSw; (try simp only [List.getElem_toArray, List.getElem_cons_zero, List.getElem_cons_succ]); go_simp; (try with_reducible rfl); all_goals (try omega))
                  case rq8 =>
                  try simp only [Act.put, List.setIfInBounds_toArray, List.set_cons_zero, List.set_cons_succ, List.getElem_toArray, List.getElem_cons_zero, List.getElem_cons_succ]
                  refine wpAnyH_take (i := 1) (v := .int .i64 (k : Int)) rfl (by kernel_rfl) (by kernel_rfl) (by kernel_rfl) (fun _ _ _ h => h) (Or.inl ⟨by rfl, ?yq9⟩) (by assumption) ?rq9
                  case yq9 => (intro wq hSw; (try simp only [List.getElem_toArray, List.getElem_cons_zero, List.getElem_cons_succ]); go_simp; (try with_reducible rfl); all_goals (try omega))
                  case rq9 =>
                  try simp only [Act.put, List.setIfInBounds_toArray, List.set_cons_zero, List.set_cons_succ, List.getElem_toArray, List.getElem_cons_zero, List.getElem_cons_succ]
                  refine wpAnyH_take (i := 2) (v := .pointer (some ⟨g, ob + k * 10, none⟩)) rfl (by kernel_rfl) (by kernel_rfl) (by kernel_rfl) (fun _ _ _ h => h) (Or.inl ⟨by rfl, ?yq10⟩) (by assumption) ?rq10
                  case yq10 => (intro wq hSw; (try simp only [List.getElem_toArray, List.getElem_cons_zero, List.getElem_cons_succ]); go_simp; (try with_reducible rfl); all_goals (try omega))
                  case rq10 =>
                  try simp only [Act.put, List.setIfInBounds_toArray, List.set_cons_zero, List.set_cons_succ, List.getElem_toArray, List.getElem_cons_zero, List.getElem_cons_succ]
                  refine wpAnyH_take (i := 3) (v := .agg o.vals.toArray) rfl (by kernel_rfl) (by kernel_rfl) (by kernel_rfl) (fun _ _ _ h => h) (Or.inl ⟨by rfl, ?yq11⟩) (by assumption) ?rq11
                  case yq11 => (intro wq hSw; exact exec_load_mid _ _ 24 (.tmp 131) rfl g (ob + k * 10) rfl o.vals _ _ hSw.1 Try.underlying24 rfl el_info)
                  case rq11 =>
                  try simp only [Act.put, List.setIfInBounds_toArray, List.set_cons_zero, List.set_cons_succ, List.getElem_toArray, List.getElem_cons_zero, List.getElem_cons_succ]
                  refine wpAnyH_take (i := 4) (v := .pointer (some ⟨X, 11, none⟩)) rfl (by kernel_rfl) (by kernel_rfl) (by kernel_rfl) (fun _ _ _ h => h) (Or.inl ⟨by rfl, ?yq12⟩) (by assumption) ?rq12
                  case yq12 => (intro wq hSw; (try simp only [List.getElem_toArray, List.getElem_cons_zero, List.getElem_cons_succ]); go_simp; (try with_reducible rfl); all_goals (try omega))
                  case rq12 =>
                  try simp only [Act.put, List.setIfInBounds_toArray, List.set_cons_zero, List.set_cons_succ, List.getElem_toArray, List.getElem_cons_zero, List.getElem_cons_succ]
                  refine wpAnyH_take (i := 5) (v := .int .i64 x.f) rfl (by kernel_rfl) (by kernel_rfl) (by kernel_rfl) (fun _ _ _ h => h) (Or.inl ⟨by rfl, ?yq13⟩) (by assumption) ?rq13
                  case yq13 => (intro wq hSw; obtain ⟨_, _, _, z, _, _⟩ := edC hSw.2; simp only [Nat.zero_add] at z; (try simp only [List.getElem_toArray, List.getElem_cons_zero, List.getElem_cons_succ]); go_simp)
                  case rq13 =>
                  try simp only [Act.put, List.setIfInBounds_toArray, List.set_cons_zero, List.set_cons_succ, List.getElem_toArray, List.getElem_cons_zero, List.getElem_cons_succ]
                  refine wpAnyH_take (i := 7) (v := .pointer (some ⟨X, 12, none⟩)) rfl (by kernel_rfl) (by kernel_rfl) (by kernel_rfl) (fun _ _ _ h => h) (Or.inl ⟨by rfl, ?yq14⟩) (by assumption) ?rq14
                  case yq14 => (intro wq hSw; (try simp only [List.getElem_toArray, List.getElem_cons_zero, List.getElem_cons_succ]); go_simp; (try with_reducible rfl); all_goals (try omega))
                  case rq14 =>
                  try simp only [Act.put, List.setIfInBounds_toArray, List.set_cons_zero, List.set_cons_succ, List.getElem_toArray, List.getElem_cons_zero, List.getElem_cons_succ]
                  refine wpAnyH_take (i := 8) (v := .agg (vl x.on x.os).toArray) rfl (by kernel_rfl) (by kernel_rfl) (by kernel_rfl) (fun _ _ _ h => h) (Or.inl ⟨by rfl, ?yq15⟩) (by assumption) ?rq15
                  case yq15 => (intro wq hSw; exact exec_load_mid _ _ 26 (.tmp 136) rfl X 12 rfl (vl x.on x.os) _ _ (by have := edO hSw.2; rwa [Nat.zero_add] at this) Try.underlying26 rfl vl_info)
                  case rq15 =>
                  try simp only [Act.put, List.setIfInBounds_toArray, List.set_cons_zero, List.set_cons_succ, List.getElem_toArray, List.getElem_cons_zero, List.getElem_cons_succ]
                  refine wpAnyH_ready (rs := [6]) (by kernel_rfl) (by simp) ?_
                  refine AllReadyH.cons rfl (fun K hK => ?_) AllReadyH.nil
                  go_simp
                  refine (value_any w6.drew o x.f hko).mono ?_
                  rintro r wd ⟨rfl, t5⟩
                  have t5' := (Turn.refl (fun _ => False) w6).drew.trans t5 (fun _ _ => id)
                  have HVd := Lib.hid (HV6.out.turn t5' (fun _ _ => id))
                  have HRd := Lib.hid (rangeAt_turn HR6.out t5' id)
                  have HSd := Lib.hid (rangeAt_turn HSO.out t5' id)
                  have Td := Lib.hid (T6.out.trans t5' (fun _ _ => id))
                  clear t5 t5'
                  refine hK.out _ _ ⟨HSd.out, HRd.out⟩ (fun _ => ?_)
                  clear hK K
                  try simp only [Act.put, List.setIfInBounds_toArray, List.set_cons_zero, List.set_cons_succ, List.getElem_toArray, List.getElem_cons_zero, List.getElem_cons_succ]
                  refine wpAnyH_take (i := 9) (v := .bool (!decide (getN o x.f = x.on ∧ getS o x.f = x.os))) rfl (by kernel_rfl) (by kernel_rfl) (by kernel_rfl) (fun _ _ _ h => h) (Or.inl ⟨by rfl, ?yq16⟩) (by assumption) ?rq16
                  case yq16 => (intro wq hSw; exact exec_neq_vl _ _ rfl _ _ _ _ wq rfl rfl)
                  case rq16 =>
                  try simp only [Act.put, List.setIfInBounds_toArray, List.set_cons_zero, List.set_cons_succ, List.getElem_toArray, List.getElem_cons_zero, List.getElem_cons_succ]
                  refine wpAnyH_done (by kernel_rfl) ?_ _
                  clear hHeld
                  by_cases he : getN o x.f = x.on ∧ getS o x.f = x.os
                  · have d1 : decide (getN o x.f = x.on ∧ getS o x.f = x.os) = true := decide_eq_true he
                    rw [d1]
                    clear c0 c1 c3 c11 c12 c14
                    obtain ⟨c0, c1, c3, c11, c12, c14⟩ := edC HRd.out
                    simp only [Nat.zero_add] at c0 c1 c3 c11 c12 c14
                    rw [ho] at c0
                    have HLK := Lib.hid (fun nr => rlacks_any wd (.slice (some ⟨g, ob, none⟩) n lc) l nr HVd.out HRS.out HB.out)
                    have HPR := Lib.hid (fun nr => rpar_any wd (.slice (some ⟨g, ob, none⟩) n lc) l nr HVd.out HB.out)
                    by_cases hf : x.f = 1
                    · have qf : (x.f == 1) = true := by simpa using hf
                      cases hL : lacksB l x.on
                      · have HL := Lib.hid hL
                        clear hL
                        cases hP : lacksB l x.nn
                        · have HP := Lib.hid hP
                          clear hP
                          have hcu : ¬ (x.f = 1 ∧ (lacksB l x.on || lacksB l x.nn) = true) := fun h => by have := h.2; rw [HL.out, HP.out] at this; cases this
                          have HOE := Lib.hid (show oneE l x = (putE l (setV o x.f x.nn x.ns), 0) by unfold oneE; rw [if_neg (by simp [hrs]), if_neg (by simp [hm]), hg]; simp only []; rw [if_neg (by omega), if_neg (by omega), if_pos he, if_neg hcu])
                          clear hg hcu hm he hf
                          go_wp2_with (go_at_call 32; refine (HLK.out _).mono ?_; rintro r w78 ⟨rfl, rfl⟩; first | rw [HL.out] | rw [HP.out])
                          clear qf
                          refine wp_region_held_drew (S := fun wq => wq.rangeAt g (ob + k * 10) o.vals ∧ wq.rangeAt X 0 x.vals) (by kernel_rfl) ⟨HSd.out, HRd.out⟩ (fun hHeld => ?_)
                          refine wpAnyH_take (i := 0) (v := .slice (some ⟨g, ob, none⟩) n lc) rfl (by kernel_rfl) (by kernel_rfl) (by kernel_rfl) (fun _ _ _ h => h) (Or.inl ⟨by rfl, ?yq17⟩) (by assumption) ?rq17
                          case yq17 => (intro wq hSw; (try simp only [List.getElem_toArray, List.getElem_cons_zero, List.getElem_cons_succ]); go_simp; (try with_reducible rfl); all_goals (try omega))
                          case rq17 =>
                          try simp only [Act.put, List.setIfInBounds_toArray, List.set_cons_zero, List.set_cons_succ, List.getElem_toArray, List.getElem_cons_zero, List.getElem_cons_succ]
                          refine wpAnyH_take (i := 1) (v := .slice (some ⟨g, ob, none⟩) n lc) rfl (by kernel_rfl) (by kernel_rfl) (by kernel_rfl) (fun _ _ _ h => h) (Or.inl ⟨by rfl, ?yq18⟩) (by assumption) ?rq18
                          case yq18 => (intro wq hSw; (try simp only [List.getElem_toArray, List.getElem_cons_zero, List.getElem_cons_succ]); go_simp; (try with_reducible rfl); all_goals (try omega))
                          case rq18 =>
                          try simp only [Act.put, List.setIfInBounds_toArray, List.set_cons_zero, List.set_cons_succ, List.getElem_toArray, List.getElem_cons_zero, List.getElem_cons_succ]
                          refine wpAnyH_take (i := 2) (v := .int .i64 (k : Int)) rfl (by kernel_rfl) (by kernel_rfl) (by kernel_rfl) (fun _ _ _ h => h) (Or.inl ⟨by rfl, ?yq19⟩) (by assumption) ?rq19
                          case yq19 => (intro wq hSw; (try simp only [List.getElem_toArray, List.getElem_cons_zero, List.getElem_cons_succ]); go_simp; (try with_reducible rfl); all_goals (try omega))
                          case rq19 =>
                          try simp only [Act.put, List.setIfInBounds_toArray, List.set_cons_zero, List.set_cons_succ, List.getElem_toArray, List.getElem_cons_zero, List.getElem_cons_succ]
                          refine wpAnyH_take (i := 3) (v := .pointer (some ⟨g, ob + k * 10, none⟩)) rfl (by kernel_rfl) (by kernel_rfl) (by kernel_rfl) (fun _ _ _ h => h) (Or.inl ⟨by rfl, ?yq20⟩) (by assumption) ?rq20
                          case yq20 => (intro wq hSw; (try simp only [List.getElem_toArray, List.getElem_cons_zero, List.getElem_cons_succ]); go_simp; (try with_reducible rfl); all_goals (try omega))
                          case rq20 =>
                          try simp only [Act.put, List.setIfInBounds_toArray, List.set_cons_zero, List.set_cons_succ, List.getElem_toArray, List.getElem_cons_zero, List.getElem_cons_succ]
                          refine wpAnyH_take (i := 4) (v := .agg o.vals.toArray) rfl (by kernel_rfl) (by kernel_rfl) (by kernel_rfl) (fun _ _ _ h => h) (Or.inl ⟨by rfl, ?yq21⟩) (by assumption) ?rq21
                          case yq21 => (intro wq hSw; exact exec_load_mid _ _ 24 (.tmp 159) rfl g (ob + k * 10) rfl o.vals _ _ hSw.1 Try.underlying24 rfl el_info)
                          case rq21 =>
                          try simp only [Act.put, List.setIfInBounds_toArray, List.set_cons_zero, List.set_cons_succ, List.getElem_toArray, List.getElem_cons_zero, List.getElem_cons_succ]
                          refine wpAnyH_take (i := 5) (v := .pointer (some ⟨X, 11, none⟩)) rfl (by kernel_rfl) (by kernel_rfl) (by kernel_rfl) (fun _ _ _ h => h) (Or.inl ⟨by rfl, ?yq22⟩) (by assumption) ?rq22
                          case yq22 => (intro wq hSw; (try simp only [List.getElem_toArray, List.getElem_cons_zero, List.getElem_cons_succ]); go_simp; (try with_reducible rfl); all_goals (try omega))
                          case rq22 =>
                          try simp only [Act.put, List.setIfInBounds_toArray, List.set_cons_zero, List.set_cons_succ, List.getElem_toArray, List.getElem_cons_zero, List.getElem_cons_succ]
                          refine wpAnyH_take (i := 6) (v := .int .i64 x.f) rfl (by kernel_rfl) (by kernel_rfl) (by kernel_rfl) (fun _ _ _ h => h) (Or.inl ⟨by rfl, ?yq23⟩) (by assumption) ?rq23
                          case yq23 => (intro wq hSw; obtain ⟨_, _, _, z, _, _⟩ := edC hSw.2; simp only [Nat.zero_add] at z; (try simp only [List.getElem_toArray, List.getElem_cons_zero, List.getElem_cons_succ]); go_simp)
                          case rq23 =>
                          try simp only [Act.put, List.setIfInBounds_toArray, List.set_cons_zero, List.set_cons_succ, List.getElem_toArray, List.getElem_cons_zero, List.getElem_cons_succ]
                          refine wpAnyH_take (i := 7) (v := .pointer (some ⟨X, 14, none⟩)) rfl (by kernel_rfl) (by kernel_rfl) (by kernel_rfl) (fun _ _ _ h => h) (Or.inl ⟨by rfl, ?yq24⟩) (by assumption) ?rq24
                          case yq24 => (intro wq hSw; (try simp only [List.getElem_toArray, List.getElem_cons_zero, List.getElem_cons_succ]); go_simp; (try with_reducible rfl); all_goals (try omega))
                          case rq24 =>
                          try simp only [Act.put, List.setIfInBounds_toArray, List.set_cons_zero, List.set_cons_succ, List.getElem_toArray, List.getElem_cons_zero, List.getElem_cons_succ]
                          refine wpAnyH_take (i := 8) (v := .agg (vl x.nn x.ns).toArray) rfl (by kernel_rfl) (by kernel_rfl) (by kernel_rfl) (fun _ _ _ h => h) (Or.inl ⟨by rfl, ?yq25⟩) (by assumption) ?rq25
                          case yq25 => (intro wq hSw; exact exec_load_mid _ _ 26 (.tmp 163) rfl X 14 rfl (vl x.nn x.ns) _ _ (by have := edN hSw.2; rwa [Nat.zero_add] at this) Try.underlying26 rfl vl_info)
                          case rq25 =>
                          try simp only [Act.put, List.setIfInBounds_toArray, List.set_cons_zero, List.set_cons_succ, List.getElem_toArray, List.getElem_cons_zero, List.getElem_cons_succ]
                          refine wpAnyH_ready (rs := [9]) (by kernel_rfl) (by simp) ?_
                          refine AllReadyH.cons rfl (fun K hK => ?_) AllReadyH.nil
                          go_simp
                          refine (rset_any wd.drew o x.f x.nn x.ns).mono ?_
                          rintro r we ⟨rfl, t6⟩
                          have t6' := (Turn.refl (fun _ => False) wd).drew.trans t6 (fun _ _ => id)
                          have HVe := Lib.hid (HVd.out.turn t6' (fun _ _ => id))
                          have HRe := Lib.hid (rangeAt_turn HRd.out t6' id)
                          have HSe := Lib.hid (rangeAt_turn HSd.out t6' id)
                          have Te := Lib.hid (Td.out.trans t6' (fun _ _ => id))
                          clear t6 t6'
                          refine hK.out _ _ ⟨HSe.out, HRe.out⟩ (fun _ => ?_)
                          clear hK K
                          try simp only [Act.put, List.setIfInBounds_toArray, List.set_cons_zero, List.set_cons_succ, List.getElem_toArray, List.getElem_cons_zero, List.getElem_cons_succ]
                          refine wpAnyH_ready (rs := [10]) (by kernel_rfl) (by simp) ?_
                          refine AllReadyH.cons rfl (fun K hK => ?_) AllReadyH.nil
                          go_simp
                          refine (rput_any we _ l (setV o x.f x.nn x.ns) HVe.out HRS.out HB.out).mono ?_
                          rintro r w9 hne
                          obtain ⟨v9, rfl, hv9, t9, ty9⟩ := newEls_row hne
                          have HV9 := Lib.hid hv9
                          have T9 := Lib.hid t9
                          have TY9 := Lib.hid ty9
                          clear t9 hv9 hne ty9
                          refine hK.out _ _ ⟨rangeAt_turn HSe.out T9.out id, rangeAt_turn HRe.out T9.out id⟩ (fun _ => ?_)
                          clear hK K
                          try simp only [Act.put, List.setIfInBounds_toArray, List.set_cons_zero, List.set_cons_succ, List.getElem_toArray, List.getElem_cons_zero, List.getElem_cons_succ]
                          refine wpAnyH_take (i := 11) (v := v9) rfl (by kernel_rfl) (by kernel_rfl) (by kernel_rfl) (fun _ _ _ h => h) (Or.inl ⟨by rfl, ?yq26⟩) (by assumption) ?rq26
                          case yq26 => (intro wq hSw; (try simp only [List.getElem_toArray, List.getElem_cons_zero, List.getElem_cons_succ]); go_simp; (try with_reducible rfl); all_goals (try omega))
                          case rq26 =>
                          try simp only [Act.put, List.setIfInBounds_toArray, List.set_cons_zero, List.set_cons_succ, List.getElem_toArray, List.getElem_cons_zero, List.getElem_cons_succ]
                          refine wpAnyH_take (i := 12) (v := .int .i64 0) rfl (by kernel_rfl) (by kernel_rfl) (by kernel_rfl) (fun _ _ _ h => h) (Or.inl ⟨by rfl, ?yq27⟩) (by assumption) ?rq27
                          case yq27 => (intro wq hSw; (try simp only [List.getElem_toArray, List.getElem_cons_zero, List.getElem_cons_succ]); go_simp; (try with_reducible rfl); all_goals (try omega))
                          case rq27 =>
                          try simp only [Act.put, List.setIfInBounds_toArray, List.set_cons_zero, List.set_cons_succ, List.getElem_toArray, List.getElem_cons_zero, List.getElem_cons_succ]
                          refine wpAnyH_done (by kernel_rfl) ?_ _
                          clear hHeld
                          go_wp2_with fail
                          go_ret2
                          refine ⟨_, by rw [HOE.out]; rfl, by rw [HOE.out]; exact HV9.out, Te.out.trans T9.out (fun _ _ => id), TY9.out⟩
                        · have HP := Lib.hid hP
                          clear hP
                          have hcu : (x.f = 1 ∧ (lacksB l x.on || lacksB l x.nn) = true) := ⟨hf, by rw [HL.out, HP.out]; rfl⟩
                          have HOE := Lib.hid (show oneE l x = ([], 14) by unfold oneE; rw [if_neg (by simp [hrs]), if_neg (by simp [hm]), hg]; simp only []; rw [if_neg (by omega), if_neg (by omega), if_pos he, if_pos hcu])
                          clear hg hcu hm he
                          go_wp2_with (go_at_call 32; refine (HLK.out _).mono ?_; rintro r w78 ⟨rfl, rfl⟩; first | rw [HL.out] | rw [HP.out])
                          go_ret2
                          refine ⟨_, by rw [HOE.out]; rfl, by rw [HOE.out]; exact .inl ⟨rfl, rfl⟩, Td.out, ty24_nil _⟩
                      · have HL := Lib.hid hL
                        clear hL
                        have hcu : (x.f = 1 ∧ (lacksB l x.on || lacksB l x.nn) = true) := ⟨hf, by rw [HL.out]; rfl⟩
                        have HOE := Lib.hid (show oneE l x = ([], 14) by unfold oneE; rw [if_neg (by simp [hrs]), if_neg (by simp [hm]), hg]; simp only []; rw [if_neg (by omega), if_neg (by omega), if_pos he, if_pos hcu])
                        clear hg hcu hm he
                        go_wp2_with (go_at_call 32; refine (HLK.out _).mono ?_; rintro r w78 ⟨rfl, rfl⟩; rw [HL.out])
                        go_ret2
                        refine ⟨_, by rw [HOE.out]; rfl, by rw [HOE.out]; exact .inl ⟨rfl, rfl⟩, Td.out, ty24_nil _⟩
                    · have qf : (x.f == 1) = false := by simpa using hf
                      have hcu : ¬ (x.f = 1 ∧ (lacksB l x.on || lacksB l x.nn) = true) := fun h => hf h.1
                      have HOE := Lib.hid (show oneE l x = (putE l (setV o x.f x.nn x.ns), 0) by unfold oneE; rw [if_neg (by simp [hrs]), if_neg (by simp [hm]), hg]; simp only []; rw [if_neg (by omega), if_neg (by omega), if_pos he, if_neg hcu])
                      clear hg hcu hm he
                      go_wp2_with fail
                      refine wp_region_held_drew (S := fun wq => wq.rangeAt g (ob + k * 10) o.vals ∧ wq.rangeAt X 0 x.vals) (by kernel_rfl) ⟨HSd.out, HRd.out⟩ (fun hHeld => ?_)
                      refine wpAnyH_take (i := 0) (v := .slice (some ⟨g, ob, none⟩) n lc) rfl (by kernel_rfl) (by kernel_rfl) (by kernel_rfl) (fun _ _ _ h => h) (Or.inl ⟨by rfl, ?yq17⟩) (by assumption) ?rq17
                      case yq17 => (intro wq hSw; (try simp only [List.getElem_toArray, List.getElem_cons_zero, List.getElem_cons_succ]); go_simp; (try with_reducible rfl); all_goals (try omega))
                      case rq17 =>
                      try simp only [Act.put, List.setIfInBounds_toArray, List.set_cons_zero, List.set_cons_succ, List.getElem_toArray, List.getElem_cons_zero, List.getElem_cons_succ]
                      refine wpAnyH_take (i := 1) (v := .slice (some ⟨g, ob, none⟩) n lc) rfl (by kernel_rfl) (by kernel_rfl) (by kernel_rfl) (fun _ _ _ h => h) (Or.inl ⟨by rfl, ?yq18⟩) (by assumption) ?rq18
                      case yq18 => (intro wq hSw; (try simp only [List.getElem_toArray, List.getElem_cons_zero, List.getElem_cons_succ]); go_simp; (try with_reducible rfl); all_goals (try omega))
                      case rq18 =>
                      try simp only [Act.put, List.setIfInBounds_toArray, List.set_cons_zero, List.set_cons_succ, List.getElem_toArray, List.getElem_cons_zero, List.getElem_cons_succ]
                      refine wpAnyH_take (i := 2) (v := .int .i64 (k : Int)) rfl (by kernel_rfl) (by kernel_rfl) (by kernel_rfl) (fun _ _ _ h => h) (Or.inl ⟨by rfl, ?yq19⟩) (by assumption) ?rq19
                      case yq19 => (intro wq hSw; (try simp only [List.getElem_toArray, List.getElem_cons_zero, List.getElem_cons_succ]); go_simp; (try with_reducible rfl); all_goals (try omega))
                      case rq19 =>
                      try simp only [Act.put, List.setIfInBounds_toArray, List.set_cons_zero, List.set_cons_succ, List.getElem_toArray, List.getElem_cons_zero, List.getElem_cons_succ]
                      refine wpAnyH_take (i := 3) (v := .pointer (some ⟨g, ob + k * 10, none⟩)) rfl (by kernel_rfl) (by kernel_rfl) (by kernel_rfl) (fun _ _ _ h => h) (Or.inl ⟨by rfl, ?yq20⟩) (by assumption) ?rq20
                      case yq20 => (intro wq hSw; (try simp only [List.getElem_toArray, List.getElem_cons_zero, List.getElem_cons_succ]); go_simp; (try with_reducible rfl); all_goals (try omega))
                      case rq20 =>
                      try simp only [Act.put, List.setIfInBounds_toArray, List.set_cons_zero, List.set_cons_succ, List.getElem_toArray, List.getElem_cons_zero, List.getElem_cons_succ]
                      refine wpAnyH_take (i := 4) (v := .agg o.vals.toArray) rfl (by kernel_rfl) (by kernel_rfl) (by kernel_rfl) (fun _ _ _ h => h) (Or.inl ⟨by rfl, ?yq21⟩) (by assumption) ?rq21
                      case yq21 => (intro wq hSw; exact exec_load_mid _ _ 24 (.tmp 159) rfl g (ob + k * 10) rfl o.vals _ _ hSw.1 Try.underlying24 rfl el_info)
                      case rq21 =>
                      try simp only [Act.put, List.setIfInBounds_toArray, List.set_cons_zero, List.set_cons_succ, List.getElem_toArray, List.getElem_cons_zero, List.getElem_cons_succ]
                      refine wpAnyH_take (i := 5) (v := .pointer (some ⟨X, 11, none⟩)) rfl (by kernel_rfl) (by kernel_rfl) (by kernel_rfl) (fun _ _ _ h => h) (Or.inl ⟨by rfl, ?yq22⟩) (by assumption) ?rq22
                      case yq22 => (intro wq hSw; (try simp only [List.getElem_toArray, List.getElem_cons_zero, List.getElem_cons_succ]); go_simp; (try with_reducible rfl); all_goals (try omega))
                      case rq22 =>
                      try simp only [Act.put, List.setIfInBounds_toArray, List.set_cons_zero, List.set_cons_succ, List.getElem_toArray, List.getElem_cons_zero, List.getElem_cons_succ]
                      refine wpAnyH_take (i := 6) (v := .int .i64 x.f) rfl (by kernel_rfl) (by kernel_rfl) (by kernel_rfl) (fun _ _ _ h => h) (Or.inl ⟨by rfl, ?yq23⟩) (by assumption) ?rq23
                      case yq23 => (intro wq hSw; obtain ⟨_, _, _, z, _, _⟩ := edC hSw.2; simp only [Nat.zero_add] at z; (try simp only [List.getElem_toArray, List.getElem_cons_zero, List.getElem_cons_succ]); go_simp)
                      case rq23 =>
                      try simp only [Act.put, List.setIfInBounds_toArray, List.set_cons_zero, List.set_cons_succ, List.getElem_toArray, List.getElem_cons_zero, List.getElem_cons_succ]
                      refine wpAnyH_take (i := 7) (v := .pointer (some ⟨X, 14, none⟩)) rfl (by kernel_rfl) (by kernel_rfl) (by kernel_rfl) (fun _ _ _ h => h) (Or.inl ⟨by rfl, ?yq24⟩) (by assumption) ?rq24
                      case yq24 => (intro wq hSw; (try simp only [List.getElem_toArray, List.getElem_cons_zero, List.getElem_cons_succ]); go_simp; (try with_reducible rfl); all_goals (try omega))
                      case rq24 =>
                      try simp only [Act.put, List.setIfInBounds_toArray, List.set_cons_zero, List.set_cons_succ, List.getElem_toArray, List.getElem_cons_zero, List.getElem_cons_succ]
                      refine wpAnyH_take (i := 8) (v := .agg (vl x.nn x.ns).toArray) rfl (by kernel_rfl) (by kernel_rfl) (by kernel_rfl) (fun _ _ _ h => h) (Or.inl ⟨by rfl, ?yq25⟩) (by assumption) ?rq25
                      case yq25 => (intro wq hSw; exact exec_load_mid _ _ 26 (.tmp 163) rfl X 14 rfl (vl x.nn x.ns) _ _ (by have := edN hSw.2; rwa [Nat.zero_add] at this) Try.underlying26 rfl vl_info)
                      case rq25 =>
                      try simp only [Act.put, List.setIfInBounds_toArray, List.set_cons_zero, List.set_cons_succ, List.getElem_toArray, List.getElem_cons_zero, List.getElem_cons_succ]
                      refine wpAnyH_ready (rs := [9]) (by kernel_rfl) (by simp) ?_
                      refine AllReadyH.cons rfl (fun K hK => ?_) AllReadyH.nil
                      go_simp
                      refine (rset_any wd.drew o x.f x.nn x.ns).mono ?_
                      rintro r we ⟨rfl, t6⟩
                      have t6' := (Turn.refl (fun _ => False) wd).drew.trans t6 (fun _ _ => id)
                      have HVe := Lib.hid (HVd.out.turn t6' (fun _ _ => id))
                      have HRe := Lib.hid (rangeAt_turn HRd.out t6' id)
                      have HSe := Lib.hid (rangeAt_turn HSd.out t6' id)
                      have Te := Lib.hid (Td.out.trans t6' (fun _ _ => id))
                      clear t6 t6'
                      refine hK.out _ _ ⟨HSe.out, HRe.out⟩ (fun _ => ?_)
                      clear hK K
                      try simp only [Act.put, List.setIfInBounds_toArray, List.set_cons_zero, List.set_cons_succ, List.getElem_toArray, List.getElem_cons_zero, List.getElem_cons_succ]
                      refine wpAnyH_ready (rs := [10]) (by kernel_rfl) (by simp) ?_
                      refine AllReadyH.cons rfl (fun K hK => ?_) AllReadyH.nil
                      go_simp
                      refine (rput_any we _ l (setV o x.f x.nn x.ns) HVe.out HRS.out HB.out).mono ?_
                      rintro r w9 hne
                      obtain ⟨v9, rfl, hv9, t9, ty9⟩ := newEls_row hne
                      have HV9 := Lib.hid hv9
                      have T9 := Lib.hid t9
                      have TY9 := Lib.hid ty9
                      clear t9 hv9 hne ty9
                      refine hK.out _ _ ⟨rangeAt_turn HSe.out T9.out id, rangeAt_turn HRe.out T9.out id⟩ (fun _ => ?_)
                      clear hK K
                      try simp only [Act.put, List.setIfInBounds_toArray, List.set_cons_zero, List.set_cons_succ, List.getElem_toArray, List.getElem_cons_zero, List.getElem_cons_succ]
                      refine wpAnyH_take (i := 11) (v := v9) rfl (by kernel_rfl) (by kernel_rfl) (by kernel_rfl) (fun _ _ _ h => h) (Or.inl ⟨by rfl, ?yq26⟩) (by assumption) ?rq26
                      case yq26 => (intro wq hSw; (try simp only [List.getElem_toArray, List.getElem_cons_zero, List.getElem_cons_succ]); go_simp; (try with_reducible rfl); all_goals (try omega))
                      case rq26 =>
                      try simp only [Act.put, List.setIfInBounds_toArray, List.set_cons_zero, List.set_cons_succ, List.getElem_toArray, List.getElem_cons_zero, List.getElem_cons_succ]
                      refine wpAnyH_take (i := 12) (v := .int .i64 0) rfl (by kernel_rfl) (by kernel_rfl) (by kernel_rfl) (fun _ _ _ h => h) (Or.inl ⟨by rfl, ?yq27⟩) (by assumption) ?rq27
                      case yq27 => (intro wq hSw; (try simp only [List.getElem_toArray, List.getElem_cons_zero, List.getElem_cons_succ]); go_simp; (try with_reducible rfl); all_goals (try omega))
                      case rq27 =>
                      try simp only [Act.put, List.setIfInBounds_toArray, List.set_cons_zero, List.set_cons_succ, List.getElem_toArray, List.getElem_cons_zero, List.getElem_cons_succ]
                      refine wpAnyH_done (by kernel_rfl) ?_ _
                      clear hHeld
                      go_wp2_with fail
                      go_ret2
                      refine ⟨_, by rw [HOE.out]; rfl, by rw [HOE.out]; exact HV9.out, Te.out.trans T9.out (fun _ _ => id), TY9.out⟩
                  · have d1 : decide (getN o x.f = x.on ∧ getS o x.f = x.os) = false := decide_eq_false he
                    rw [d1]
                    have HOE := Lib.hid (show oneE l x = ([], 11) by unfold oneE; rw [if_neg (by simp [hrs]), if_neg (by simp [hm]), hg]; simp only []; rw [if_neg (by omega), if_neg (by omega), if_neg he])
                    clear hg hm he
                    go_wp2_with fail
                    go_ret2
                    refine ⟨_, by rw [HOE.out]; rfl, by rw [HOE.out]; exact .inl ⟨rfl, rfl⟩, Td.out, ty24_nil _⟩
                · have HOE := Lib.hid (show oneE l x = ([], 2) by unfold oneE; simp [hrs, hm, hg, ho])
                  clear hg hm
                  go_wp2_with fail
                  go_ret2
                  refine ⟨_, by rw [HOE.out]; rfl, by rw [HOE.out]; exact .inl ⟨rfl, rfl⟩, T6.out, ty24_nil _⟩
    · have hm := may_0 (x := x) (by omega)
      have HOE := Lib.hid (show oneE l x = ([], 1) by unfold oneE; simp [hrs, hm])
      clear hm
      by_cases hlt : x.op < 1
      · have d1 : decide (x.op < 1) = true := decide_eq_true hlt
        clear hop hlt
        go_wp2_with fail
        go_ret2
        refine ⟨_, by rw [HOE.out]; rfl, by rw [HOE.out]; exact .inl ⟨rfl, rfl⟩, T4.out, ty24_nil _⟩
      · have d1 : decide (x.op < 1) = false := decide_eq_false hlt
        have d2 : decide (3 < x.op) = true := decide_eq_true (by omega)
        clear hop hlt
        go_wp2_with fail
        go_ret2
        refine ⟨_, by rw [HOE.out]; rfl, by rw [HOE.out]; exact .inl ⟨rfl, rfl⟩, T4.out, ty24_nil _⟩

end Go.Proofs.Ytbokdgcdkmnldaa
