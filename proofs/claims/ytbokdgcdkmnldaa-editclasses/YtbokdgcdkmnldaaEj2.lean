/- Own contracts: edits: one, by the document (2). No statement is proved here. -/
import Derived.Test.YtbokdgcdkmnldaaEj1
import Derived.Deep.RegionHeld3
namespace Go.Proofs.Ytbokdgcdkmnldaa
set_option maxRecDepth 100000
open Go.RowKit
set_option linter.unusedVariables false
set_option linter.unusedSimpArgs false

set_option maxHeartbeats 8000000 in
theorem rone_2 (w : World) (v : Value) (l : List El) (x : Ed) (hv : RowV w v l) (hb : l.length ≤ 1000) (hk : KOk l) (hk0 : x.op = 2) : Calls Try.prog 12 #[v, .agg x.vals.toArray] w (OneP w (oneE l x)) := by
  obtain ⟨la, lc, rfl⟩ := hv.form
  obtain ⟨n, hn⟩ : ∃ n, l.length = n := ⟨_, rfl⟩
  simp only [hn] at hv ⊢
  have hbn : n ≤ 1000 := by rw [← hn]; exact hb
  have hbx := box_alloc w 28 x.vals
  obtain ⟨X, hX⟩ : ∃ X, w.heap.size = X := ⟨_, rfl⟩
  obtain ⟨w1, hw1⟩ : ∃ w1, w.alloc (.cells x.vals.toArray 28) = w1 := ⟨_, rfl⟩
  rw [hw1] at hbx
  have hh := hbx.heap
  rw [hX] at hh
  have hr := hbx.range
  rw [hX] at hr
  obtain ⟨c0, c1, c3, c11, c12, c14⟩ := edC hr
  simp only [Nat.zero_add] at c0 c1 c3 c11 c12 c14
  have T1 := Lib.hid hbx.turn
  have HR := Lib.hid hr
  have HX := Lib.hid hh
  have HXS := Lib.hid hX
  have HSZ := Lib.hid hbx.size
  clear hbx hr hh
  clear HX HXS HSZ
  have HV1 := Lib.hid (hv.turn T1.out (fun _ _ => id))
  have HKO := Lib.hid hk
  have HN := Lib.hid hn
  have HB := Lib.hid hb
  have HK0 := Lib.hid hk0
  clear hv hk hn hb hk0
  have HR1 := HR
  go_enter Try.func12, Try.ntmps12
  go_wp2_with fail
  refine (rrises_any w1 _ l HV1.out (by have := HB.out; omega)).mono ?_
  rintro r w2 ⟨rfl, t2⟩
  have T2 := Lib.hid (T1.out.trans t2 (fun _ _ => id))
  have HV2 := Lib.hid (HV1.out.turn t2 (fun _ _ => id))
  have HR2 := Lib.hid (rangeAt_turn HR1.out t2 id)
  clear t2 c0 c1 c3 c11 c12 c14
  obtain ⟨c0, c1, c3, c11, c12, c14⟩ := edC HR2.out
  simp only [Nat.zero_add] at c0 c1 c3 c11 c12 c14
  cases hrs : risesB l
  · have HOE := Lib.hid (show oneE l x = ([], 7) by unfold oneE; simp [hrs])
    go_wp2_with fail
    go_ret2
    refine ⟨_, by rw [HOE.out]; rfl, by rw [HOE.out]; exact .inl ⟨rfl, rfl⟩, T2.out, ty24_nil _⟩
  · have HRS := Lib.hid ((risesB_iff l).1 hrs)
    obtain ⟨Y, hY⟩ : ∃ Z, w2.heap.size = Z := ⟨_, rfl⟩
    obtain ⟨w3, hw3⟩ : ∃ wz, w2.alloc (.cells (vl 0 e0).toArray 26) = wz := ⟨_, rfl⟩
    have hx0 : ∀ ev op, op.op = .alloc 26 → (execOp ev op).run Try.prog w2 = .ok (.value (.pointer (some ⟨Y, 0, none⟩))) w3 := fun ev op ho => by rw [← hw3, ← hY]; exact exec_zero37 ev op ho _
    have hb0 := box_alloc w2 26 (vl 0 e0)
    rw [hw3] at hb0
    have hh0 := hb0.heap
    rw [hY] at hh0
    have HXX0 := Lib.hid hx0
    have HB0 := Lib.hid hb0
    have HH0 := Lib.hid hh0
    have HE0 := Lib.hid hY
    clear hb0 hY hw3 hx0 hh0
    go_wp2_with (with_reducible (show wpList _ _ _ (Oper.mk (some 11) (.build 26 _) _ _ _ _ :: _) _ _); refine still ?_)
    refine list_exec rfl _ _ (exec_vl0 _ _ rfl _) ?_
    go_wp2_with (with_reducible (show wpList _ _ _ (Oper.mk (some 6) (.alloc 26) _ _ _ _ :: _) _ _); refine still ?_)
    refine list_exec rfl _ _ (HXX0.out _ _ rfl) ?_
    go_wp2_with (with_reducible (show wpList _ _ _ (Oper.mk none (.store 26 (.tmp 6) (.tmp 11)) _ _ _ _ :: _) _ _); refine still ?_)
    refine list_put w3 Y 26 (vl 0 e0) (vl 0 e0) HH0.out rfl (vl_one _ _) vl_info rfl (.tmp 6) (.tmp 11) rfl rfl rfl (fun w4 h4 t4 => ?_)
    have t4' := HB0.out.turn.trans t4 (fun q hq e => by have := HE0.out; omega)
    have HY4 := Lib.hid (range_of h4)
    clear h4 t4
    have T4 := Lib.hid (T2.out.trans t4' (fun _ _ => id))
    have HV4 := Lib.hid (HV2.out.turn t4' (fun _ _ => id))
    have HR4 := Lib.hid (rangeAt_turn HR2.out t4' id)
    clear t4' c0 c1 c3 c11 c12 c14
    obtain ⟨c0, c1, c3, c11, c12, c14⟩ := edC HR4.out
    simp only [Nat.zero_add] at c0 c1 c3 c11 c12 c14
    have HO4 := Lib.hid (show w4.rangeAt X 12 (vl x.on x.os) by have := edO HR4.out; rwa [Nat.zero_add] at this)
    have HN4 := Lib.hid (show w4.rangeAt X 14 (vl x.nn x.ns) by have := edN HR4.out; rwa [Nat.zero_add] at this)
    have HE4 := Lib.hid (show w4.rangeAt X 1 x.e.vals by have := edE HR4.out; rwa [Nat.zero_add] at this)
    have HLK := Lib.hid (fun nr => rlacks_any w4 (.slice la n lc) l nr HV4.out HRS.out HB.out)
    have HPR := Lib.hid (fun nr => rpar_any w4 (.slice la n lc) l nr HV4.out HB.out)
    by_cases hop : x.op = 1 ∨ x.op = 2 ∨ x.op = 3
    · by_cases hid : x.e.id = 0
      · have hm : mayB x = false := by unfold mayB; rw [decide_eq_false (show ¬ x.e.id ≠ 0 by omega)]; rfl
        have HOE := Lib.hid (show oneE l x = ([], 1) by unfold oneE; simp [hrs, hm])
        rw [hid] at c1
        clear hm hid
        rcases hop with ho | ho | ho
        · rw [ho] at c0
          clear ho
          go_wp2_with fail
          go_ret2
          refine ⟨_, by rw [HOE.out]; rfl, by rw [HOE.out]; exact .inl ⟨rfl, rfl⟩, T4.out, ty24_nil _⟩
        · rw [ho] at c0
          clear ho
          go_wp2_with fail
          go_ret2
          refine ⟨_, by rw [HOE.out]; rfl, by rw [HOE.out]; exact .inl ⟨rfl, rfl⟩, T4.out, ty24_nil _⟩
        · rw [ho] at c0
          clear ho
          go_wp2_with fail
          go_ret2
          refine ⟨_, by rw [HOE.out]; rfl, by rw [HOE.out]; exact .inl ⟨rfl, rfl⟩, T4.out, ty24_nil _⟩
      · have q0 : (x.e.id == 0) = false := by simpa using hid
        rcases hop with ho | ho | ho
        · have e := HK0.out
          omega
        · rw [ho] at c0
          have hm0 := may_12b hid (.inr ho)
          have HNO := Lib.hid (fun ev op (ho : op.op = .binOp .neq 26 (.tmp 35) (.tmp 36) 26) h1 h2 w => exec_neq_vl ev op ho x.on 0 x.os e0 w h1 h2)
          have HNN := Lib.hid (fun ev op (ho : op.op = .binOp .neq 26 (.tmp 41) (.tmp 42) 26) h1 h2 w => exec_neq_vl ev op ho x.nn 0 x.ns e0 w h1 h2)
          obtain ⟨O, hO⟩ : ∃ B, decide (x.on = 0 ∧ x.os = e0) = B := ⟨_, rfl⟩
          obtain ⟨M, hM⟩ : ∃ B, decide (x.nn = 0 ∧ x.ns = e0) = B := ⟨_, rfl⟩
          simp only [hO] at HNO
          simp only [hM] at HNN
          rw [hO, hM] at hm0
          clear hO hM hid
          by_cases hf : x.f = 0
          · rw [hf] at c11
            rw [decide_eq_true hf, Bool.true_and] at hm0
            clear hf
            cases O
            · have hm : mayB x = false := hm0
              have HOE := Lib.hid (show oneE l x = ([], 1) by unfold oneE; simp [hrs, hm])
              clear hm hm0
              go_wp2_with (with_reducible (show wpList _ _ _ (Oper.mk (some 35) (.load 26 (.tmp 34)) _ _ _ _ :: _) _ _); refine still ?_)
              refine wpList_exec_want (by rfl) _ _ (exec_load_mid _ _ 26 (.tmp 34) rfl X 12 rfl (vl x.on x.os) _ _ HO4.out Try.underlying26 rfl vl_info) ?_
              go_wp2_with (with_reducible (show wpList _ _ _ (Oper.mk (some 36) (.load 26 (.tmp 6)) _ _ _ _ :: _) _ _); refine still ?_)
              refine wpList_exec_want (by rfl) _ _ (exec_load_mid _ _ 26 (.tmp 6) rfl Y 0 rfl (vl 0 e0) _ _ HY4.out Try.underlying26 rfl vl_info) ?_
              go_wp2_with (with_reducible (show wpList _ _ _ (Oper.mk (some 37) (_) _ _ _ _ :: _) _ _); refine still ?_)
              refine wpList_exec_want (by rfl) _ _ (HNO.out _ _ rfl rfl rfl _) ?_
              go_wp2_with fail
              go_ret2
              refine ⟨_, by rw [HOE.out]; rfl, by rw [HOE.out]; exact .inl ⟨rfl, rfl⟩, T4.out, ty24_nil _⟩
            · cases M
              · have hm : mayB x = false := hm0
                have HOE := Lib.hid (show oneE l x = ([], 1) by unfold oneE; simp [hrs, hm])
                clear hm hm0
                go_wp2_with (with_reducible (show wpList _ _ _ (Oper.mk (some 35) (.load 26 (.tmp 34)) _ _ _ _ :: _) _ _); refine still ?_)
                refine wpList_exec_want (by rfl) _ _ (exec_load_mid _ _ 26 (.tmp 34) rfl X 12 rfl (vl x.on x.os) _ _ HO4.out Try.underlying26 rfl vl_info) ?_
                go_wp2_with (with_reducible (show wpList _ _ _ (Oper.mk (some 36) (.load 26 (.tmp 6)) _ _ _ _ :: _) _ _); refine still ?_)
                refine wpList_exec_want (by rfl) _ _ (exec_load_mid _ _ 26 (.tmp 6) rfl Y 0 rfl (vl 0 e0) _ _ HY4.out Try.underlying26 rfl vl_info) ?_
                go_wp2_with (with_reducible (show wpList _ _ _ (Oper.mk (some 37) (_) _ _ _ _ :: _) _ _); refine still ?_)
                refine wpList_exec_want (by rfl) _ _ (HNO.out _ _ rfl rfl rfl _) ?_
                go_wp2_with (with_reducible (show wpList _ _ _ (Oper.mk (some 41) (.load 26 (.tmp 40)) _ _ _ _ :: _) _ _); refine still ?_)
                refine wpList_exec_want (by rfl) _ _ (exec_load_mid _ _ 26 (.tmp 40) rfl X 14 rfl (vl x.nn x.ns) _ _ HN4.out Try.underlying26 rfl vl_info) ?_
                go_wp2_with (with_reducible (show wpList _ _ _ (Oper.mk (some 42) (.load 26 (.tmp 6)) _ _ _ _ :: _) _ _); refine still ?_)
                refine wpList_exec_want (by rfl) _ _ (exec_load_mid _ _ 26 (.tmp 6) rfl Y 0 rfl (vl 0 e0) _ _ HY4.out Try.underlying26 rfl vl_info) ?_
                go_wp2_with (with_reducible (show wpList _ _ _ (Oper.mk (some 43) (_) _ _ _ _ :: _) _ _); refine still ?_)
                refine wpList_exec_want (by rfl) _ _ (HNN.out _ _ rfl rfl rfl _) ?_
                go_wp2_with fail
                go_ret2
                refine ⟨_, by rw [HOE.out]; rfl, by rw [HOE.out]; exact .inl ⟨rfl, rfl⟩, T4.out, ty24_nil _⟩
              · have hm : mayB x = true := hm0
                clear hm0
                go_wp2_with (with_reducible (show wpList _ _ _ (Oper.mk (some 35) (.load 26 (.tmp 34)) _ _ _ _ :: _) _ _); refine still ?_)
                refine wpList_exec_want (by rfl) _ _ (exec_load_mid _ _ 26 (.tmp 34) rfl X 12 rfl (vl x.on x.os) _ _ HO4.out Try.underlying26 rfl vl_info) ?_
                go_wp2_with (with_reducible (show wpList _ _ _ (Oper.mk (some 36) (.load 26 (.tmp 6)) _ _ _ _ :: _) _ _); refine still ?_)
                refine wpList_exec_want (by rfl) _ _ (exec_load_mid _ _ 26 (.tmp 6) rfl Y 0 rfl (vl 0 e0) _ _ HY4.out Try.underlying26 rfl vl_info) ?_
                go_wp2_with (with_reducible (show wpList _ _ _ (Oper.mk (some 37) (_) _ _ _ _ :: _) _ _); refine still ?_)
                refine wpList_exec_want (by rfl) _ _ (HNO.out _ _ rfl rfl rfl _) ?_
                go_wp2_with (with_reducible (show wpList _ _ _ (Oper.mk (some 41) (.load 26 (.tmp 40)) _ _ _ _ :: _) _ _); refine still ?_)
                refine wpList_exec_want (by rfl) _ _ (exec_load_mid _ _ 26 (.tmp 40) rfl X 14 rfl (vl x.nn x.ns) _ _ HN4.out Try.underlying26 rfl vl_info) ?_
                go_wp2_with (with_reducible (show wpList _ _ _ (Oper.mk (some 42) (.load 26 (.tmp 6)) _ _ _ _ :: _) _ _); refine still ?_)
                refine wpList_exec_want (by rfl) _ _ (exec_load_mid _ _ 26 (.tmp 6) rfl Y 0 rfl (vl 0 e0) _ _ HY4.out Try.underlying26 rfl vl_info) ?_
                go_wp2_with (with_reducible (show wpList _ _ _ (Oper.mk (some 43) (_) _ _ _ _ :: _) _ _); refine still ?_)
                refine wpList_exec_want (by rfl) _ _ (HNN.out _ _ rfl rfl rfl _) ?_
                go_wp2_with fail
                refine (rfind2 w4 _ l x.e.id HV4.out HRS.out HB.out).mono ?_
                rintro r w5 ⟨rfl, i, rfl, hc⟩
                rcases hc with ⟨k, hk, rfl, hg⟩ | ⟨rfl, hg⟩
                · have hko := HKO.out _ (getE_some hg).1
                  obtain ⟨g, ob, rfl, hcc, hs⟩ := HV4.out.one HN.out k (by rw [← HN.out]; exact hk)
                  have gk : (0 : Int) ≤ (k : Int) ∧ (k : Int) < (n : Int) := by have := HN.out; omega
                  have dk : decide ((k : Int) < 0) = false := decide_eq_false (by omega)
                  have dk2 : decide (0 ≤ (k : Int)) = true := decide_eq_true (by omega)
                  generalize hx : l.getD k el0 = o at *
                  have HSO := Lib.hid hs
                  clear hx hs hcc hk
                  go_wp2_with fail
                  refine wp_region_held_drew (S := fun wq => wq.rangeAt g (ob + k * 10) o.vals ∧ wq.rangeAt X 0 x.vals) (by kernel_rfl) ⟨HSO.out, HR4.out⟩ (fun hHeld => ?_)
                  refine wpAnyH_take (i := 0) (v := .slice (some ⟨g, ob, none⟩) n lc) rfl (by kernel_rfl) (by kernel_rfl) (by kernel_rfl) (fun _ _ _ h => h) (Or.inl ⟨by rfl, ?yq1⟩) (by assumption) ?rq1
                  case yq1 => (intro wq hSw; (try simp only [List.getElem_toArray, List.getElem_cons_zero, List.getElem_cons_succ]); go_simp; (try with_reducible rfl); all_goals (try omega))
                  case rq1 =>
                  try simp only [Act.put, List.setIfInBounds_toArray, List.set_cons_zero, List.set_cons_succ, List.getElem_toArray, List.getElem_cons_zero, List.getElem_cons_succ]
                  refine wpAnyH_take (i := 1) (v := .int .i64 (k : Int)) rfl (by kernel_rfl) (by kernel_rfl) (by kernel_rfl) (fun _ _ _ h => h) (Or.inl ⟨by rfl, ?yq2⟩) (by assumption) ?rq2
                  case yq2 => (intro wq hSw; (try simp only [List.getElem_toArray, List.getElem_cons_zero, List.getElem_cons_succ]); go_simp; (try with_reducible rfl); all_goals (try omega))
                  case rq2 =>
                  try simp only [Act.put, List.setIfInBounds_toArray, List.set_cons_zero, List.set_cons_succ, List.getElem_toArray, List.getElem_cons_zero, List.getElem_cons_succ]
                  refine wpAnyH_take (i := 2) (v := .pointer (some ⟨g, ob + k * 10, none⟩)) rfl (by kernel_rfl) (by kernel_rfl) (by kernel_rfl) (fun _ _ _ h => h) (Or.inl ⟨by rfl, ?yq3⟩) (by assumption) ?rq3
                  case yq3 => (intro wq hSw; (try simp only [List.getElem_toArray, List.getElem_cons_zero, List.getElem_cons_succ]); go_simp; (try with_reducible rfl); all_goals (try omega))
                  case rq3 =>
                  try simp only [Act.put, List.setIfInBounds_toArray, List.set_cons_zero, List.set_cons_succ, List.getElem_toArray, List.getElem_cons_zero, List.getElem_cons_succ]
                  refine wpAnyH_take (i := 3) (v := .agg o.vals.toArray) rfl (by kernel_rfl) (by kernel_rfl) (by kernel_rfl) (fun _ _ _ h => h) (Or.inl ⟨by rfl, ?yq4⟩) (by assumption) ?rq4
                  case yq4 => (intro wq hSw; exact exec_load_mid _ _ 24 (.tmp 107) rfl g (ob + k * 10) rfl o.vals _ _ hSw.1 Try.underlying24 rfl el_info)
                  case rq4 =>
                  try simp only [Act.put, List.setIfInBounds_toArray, List.set_cons_zero, List.set_cons_succ, List.getElem_toArray, List.getElem_cons_zero, List.getElem_cons_succ]
                  refine wpAnyH_take (i := 4) (v := .pointer (some ⟨X, 1, none⟩)) rfl (by kernel_rfl) (by kernel_rfl) (by kernel_rfl) (fun _ _ _ h => h) (Or.inl ⟨by rfl, ?yq5⟩) (by assumption) ?rq5
                  case yq5 => (intro wq hSw; (try simp only [List.getElem_toArray, List.getElem_cons_zero, List.getElem_cons_succ]); go_simp; (try with_reducible rfl); all_goals (try omega))
                  case rq5 =>
                  try simp only [Act.put, List.setIfInBounds_toArray, List.set_cons_zero, List.set_cons_succ, List.getElem_toArray, List.getElem_cons_zero, List.getElem_cons_succ]
                  refine wpAnyH_take (i := 5) (v := .agg x.e.vals.toArray) rfl (by kernel_rfl) (by kernel_rfl) (by kernel_rfl) (fun _ _ _ h => h) (Or.inl ⟨by rfl, ?yq6⟩) (by assumption) ?rq6
                  case yq6 => (intro wq hSw; exact exec_load_mid _ _ 24 (.tmp 109) rfl X 1 rfl x.e.vals _ _ (by have := edE hSw.2; rwa [Nat.zero_add] at this) Try.underlying24 rfl el_info)
                  case rq6 =>
                  try simp only [Act.put, List.setIfInBounds_toArray, List.set_cons_zero, List.set_cons_succ, List.getElem_toArray, List.getElem_cons_zero, List.getElem_cons_succ]
                  refine wpAnyH_take (i := 6) (v := .bool (!decide (o = x.e))) rfl (by kernel_rfl) (by kernel_rfl) (by kernel_rfl) (fun _ _ _ h => h) (Or.inl ⟨by rfl, ?yq7⟩) (by assumption) ?rq7
                  case yq7 => (intro wq hSw; exact exec_neq_el _ _ rfl o x.e _ rfl rfl)
                  case rq7 =>
                  try simp only [Act.put, List.setIfInBounds_toArray, List.set_cons_zero, List.set_cons_succ, List.getElem_toArray, List.getElem_cons_zero, List.getElem_cons_succ]
                  refine wpAnyH_done (by kernel_rfl) ?_ _
                  clear hHeld
                  have HVd := Lib.hid (show RowV w4.drew (.slice (some ⟨g, ob, none⟩) n lc) l from HV4.out.turn (Turn.refl (fun _ => False) w4).drew (fun _ _ => id))
                  have HRd := Lib.hid (rangeAt_turn HR4.out (Turn.refl (fun _ => False) w4).drew id)
                  have HSd := Lib.hid (rangeAt_turn HSO.out (Turn.refl (fun _ => False) w4).drew id)
                  have Td := Lib.hid T4.out.drew
                  obtain ⟨wd, hwd⟩ : ∃ wd, w4.drew = wd := ⟨_, rfl⟩
                  rw [hwd] at HVd HRd HSd Td ⊢
                  by_cases he : o = x.e
                  · have d1 : decide (o = x.e) = true := decide_eq_true he
                    rw [d1]
                    clear c0 c1 c3 c11 c12 c14 hwd
                    obtain ⟨c0, c1, c3, c11, c12, c14⟩ := edC HRd.out
                    simp only [Nat.zero_add] at c0 c1 c3 c11 c12 c14
                    rw [ho] at c0
                    have HLK := Lib.hid (fun nr => rlacks_any wd (.slice (some ⟨g, ob, none⟩) n lc) l nr HVd.out HRS.out HB.out)
                    have HPR := Lib.hid (fun nr => rpar_any wd (.slice (some ⟨g, ob, none⟩) n lc) l nr HVd.out HB.out)
                    have hcb : cutB l x = (lacksB l x.e.par || parB l x.e.id) := rfl
                    cases hL : lacksB l x.e.par
                    · have HL := Lib.hid hL
                      clear hL
                      cases hP : parB l x.e.id
                      · have HP := Lib.hid hP
                        clear hP
                        have hcu : cutB l x = false := by rw [hcb, HL.out, HP.out]; rfl
                        have HOE := Lib.hid (show oneE l x = (dropE l x.e.id, 0) by unfold oneE; simp [hrs, hm, hg, ho, hcu, he])
                        clear hg hcb hcu hm he
                        go_wp2_with (first | (go_at_call 32; refine (HLK.out x.e.par).mono ?_; rintro r w6 ⟨rfl, rfl⟩; rw [HL.out]) | (go_at_call 33; refine (HPR.out x.e.id).mono ?_; rintro r w6 ⟨rfl, rfl⟩; rw [HP.out]))
                        refine (rdrop_any wd _ l x.e.id HVd.out HB.out).mono ?_
                        rintro r w9 hne
                        obtain ⟨v9, rfl, hv9, t9, ty9⟩ := newEls_row hne
                        go_wp2_with fail
                        go_ret2
                        refine ⟨_, by rw [HOE.out]; rfl, by rw [HOE.out]; exact hv9, Td.out.trans t9 (fun _ _ => id), ty9⟩
                      · have HP := Lib.hid hP
                        clear hP
                        have hcu : cutB l x = true := by rw [hcb, HL.out, HP.out]; rfl
                        have HOE := Lib.hid (show oneE l x = ([], 14) by unfold oneE; simp [hrs, hm, hg, ho, hcu, he])
                        clear hg hcb hcu hm he
                        go_wp2_with (first | (go_at_call 32; refine (HLK.out x.e.par).mono ?_; rintro r w6 ⟨rfl, rfl⟩; rw [HL.out]) | (go_at_call 33; refine (HPR.out x.e.id).mono ?_; rintro r w6 ⟨rfl, rfl⟩; rw [HP.out]))
                        go_ret2
                        refine ⟨_, by rw [HOE.out]; rfl, by rw [HOE.out]; exact .inl ⟨rfl, rfl⟩, Td.out, ty24_nil _⟩
                    · have HL := Lib.hid hL
                      clear hL
                      have hcu : cutB l x = true := by rw [hcb, HL.out]; rfl
                      have HOE := Lib.hid (show oneE l x = ([], 14) by unfold oneE; simp [hrs, hm, hg, ho, hcu, he])
                      clear hg hcb hcu hm he
                      go_wp2_with (first | (go_at_call 32; refine (HLK.out x.e.par).mono ?_; rintro r w6 ⟨rfl, rfl⟩; rw [HL.out]) | (go_at_call 33; refine (HPR.out x.e.id).mono ?_; rintro r w6 ⟨rfl, rfl⟩; rw [HP.out]))
                      go_ret2
                      refine ⟨_, by rw [HOE.out]; rfl, by rw [HOE.out]; exact .inl ⟨rfl, rfl⟩, Td.out, ty24_nil _⟩
                  · have d1 : decide (o = x.e) = false := decide_eq_false he
                    rw [d1]
                    have HOE := Lib.hid (show oneE l x = ([], 11) by unfold oneE; simp [hrs, hm, hg, ho, he])
                    clear hg hm he hwd
                    go_wp2_with fail
                    go_ret2
                    refine ⟨_, by rw [HOE.out]; rfl, by rw [HOE.out]; exact .inl ⟨rfl, rfl⟩, Td.out, ty24_nil _⟩
                · have HOE := Lib.hid (show oneE l x = ([], 2) by unfold oneE; simp [hrs, hm, hg, ho])
                  clear hg hm
                  go_wp2_with fail
                  go_ret2
                  refine ⟨_, by rw [HOE.out]; rfl, by rw [HOE.out]; exact .inl ⟨rfl, rfl⟩, T4.out, ty24_nil _⟩
          · have qf : (x.f == 0) = false := by simpa using hf
            have qf2 : (x.f != 0) = true := by simpa using hf
            have hm : mayB x = false := by rw [hm0, decide_eq_false hf]; rfl
            have HOE := Lib.hid (show oneE l x = ([], 1) by unfold oneE; simp [hrs, hm])
            clear hm hm0 hf
            go_wp2_with fail
            go_ret2
            refine ⟨_, by rw [HOE.out]; rfl, by rw [HOE.out]; exact .inl ⟨rfl, rfl⟩, T4.out, ty24_nil _⟩
        · have e := HK0.out
          omega
    · have hm := may_0 (x := x) (by omega)
      have HOE := Lib.hid (show oneE l x = ([], 1) by unfold oneE; simp [hrs, hm])
      clear hm
      by_cases hlt : x.op < 1
      · have d1 : decide (x.op < 1) = true := decide_eq_true hlt
        clear hop hlt
        go_wp2_with fail
        go_ret2
        refine ⟨_, by rw [HOE.out]; rfl, by rw [HOE.out]; exact .inl ⟨rfl, rfl⟩, T4.out, ty24_nil _⟩
      · have d1 : decide (x.op < 1) = false := decide_eq_false hlt
        have d2 : decide (3 < x.op) = true := decide_eq_true (by omega)
        clear hop hlt
        go_wp2_with fail
        go_ret2
        refine ⟨_, by rw [HOE.out]; rfl, by rw [HOE.out]; exact .inl ⟨rfl, rfl⟩, T4.out, ty24_nil _⟩

end Go.Proofs.Ytbokdgcdkmnldaa
