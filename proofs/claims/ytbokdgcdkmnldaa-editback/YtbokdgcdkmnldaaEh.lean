/- Own contracts: edits: one, by the program. No statement is proved here. -/
import Derived.Test.YtbokdgcdkmnldaaEg
namespace Go.Proofs.Ytbokdgcdkmnldaa
set_option maxRecDepth 100000
open Go.RowKit
set_option linter.unusedVariables false
set_option linter.unusedSimpArgs false

/-- A row that lies in a block of elements. -/
def Ty24 (w : World) (v : Value) : Prop := ∀ q, v.ownBlock = some q → ∃ cs, w.heap[q]? = some (.cells cs 24 (0, 0))
theorem ty24_nil (w : World) : Ty24 w (.slice none 0 0) := fun q h => by cases h
/-- What an edit makes of a chart, as a pair. -/
def OneP (w : World) (r : List El × Int) (e : Ending) (w' : World) : Prop := ∃ v, e = .returned (.tuple #[v, .int .i64 r.2]) ∧ RowV w' v r.1 ∧ Turn (fun _ => False) w w' ∧ Ty24 w' v
theorem newEls_row {w w' : World} {l : List El} {e : Ending} (h : NewEls w l e w') : ∃ v, e = .returned v ∧ RowV w' v l ∧ Turn (fun _ => False) w w' ∧ Ty24 w' v := by
  obtain ⟨v, h1, h2, h3⟩ := h
  refine ⟨v, h1, own_rowV h2, h3, fun q hq => ?_⟩
  rcases h2.2 with ⟨rfl, _⟩ | ⟨g, cap, cur, rfl, _, hg, _⟩
  · cases hq
  · injection hq with hq
    exact ⟨cur, by rw [← hq]; exact hg⟩
theorem may_op {x : Ed} (h : mayB x = true) : x.op = 1 ∨ x.op = 2 ∨ x.op = 3 :=
  Classical.byContradiction fun hn => by rw [may_0 (by omega)] at h; cases h
set_option maxHeartbeats 8000000 in
theorem one_any (w : World) (v : Value) (l : List El) (x : Ed) (hv : RowV w v l) (hb : l.length ≤ 1000) (hk : KOk l) : Calls Try.prog 11 #[v, .agg x.vals.toArray] w (OneP w (oneE l x)) := by
  have hbx := box_alloc w 28 x.vals
  obtain ⟨X, hX⟩ : ∃ X, w.heap.size = X := ⟨_, rfl⟩
  obtain ⟨w1, hw1⟩ : ∃ w1, w.alloc (.cells x.vals.toArray 28) = w1 := ⟨_, rfl⟩
  rw [hw1] at hbx
  have hh := hbx.heap
  rw [hX] at hh
  have hr := hbx.range
  rw [hX] at hr
  obtain ⟨c0, c1, c3, c11, c12, c14⟩ := edC hr
  simp only [Nat.zero_add] at c0 c1 c3 c11 c12 c14
  have T1 := Lib.hid hbx.turn
  have HR := Lib.hid hr
  have HX := Lib.hid hh
  have HXS := Lib.hid hX
  have HSZ := Lib.hid hbx.size
  clear hbx hr hh
  clear HX HXS HSZ
  have HV1 := Lib.hid (hv.turn T1.out (fun _ _ => id))
  have HKO := Lib.hid hk
  clear hv hk
  have HR1 := HR
  go_enter Try.func11, Try.ntmps11
  go_wp2_with fail
  refine (rises_any w1 v l HV1.out (by omega)).mono ?_
  rintro r w2 ⟨rfl, t2⟩
  have T2 := Lib.hid (T1.out.trans t2 (fun _ _ => id))
  have HV2 := Lib.hid (HV1.out.turn t2 (fun _ _ => id))
  have HR2 := Lib.hid (rangeAt_turn HR1.out t2 id)
  clear t2 c0 c1 c3 c11 c12 c14
  obtain ⟨c0, c1, c3, c11, c12, c14⟩ := edC HR2.out
  simp only [Nat.zero_add] at c0 c1 c3 c11 c12 c14
  cases hrs : risesB l
  · have HOE := Lib.hid (show oneE l x = ([], 7) by unfold oneE; simp [hrs])
    go_wp2_with fail
    go_ret2
    refine ⟨_, by rw [HOE.out]; rfl, by rw [HOE.out]; exact .inl ⟨rfl, rfl⟩, T2.out, ty24_nil _⟩
  · have HRS := Lib.hid ((risesB_iff l).1 hrs)
    go_wp2_with (with_reducible (show wpList _ _ _ (Oper.mk (some 11) (.load 28 (.tmp 3)) _ _ _ _ :: _) _ _); refine still ?_)
    refine wpList_load_mid rfl 28 (.tmp 3) rfl X 0 rfl x.vals _ HR2.out Try.underlying28 rfl ed_info ?_
    go_wp2_with fail
    refine (may_any x w2).mono ?_
    rintro r w3 ⟨rfl, t3⟩
    have T3 := Lib.hid (T2.out.trans t3 (fun _ _ => id))
    have HV3 := Lib.hid (HV2.out.turn t3 (fun _ _ => id))
    have HR3 := Lib.hid (rangeAt_turn HR2.out t3 id)
    clear t3 c0 c1 c3 c11 c12 c14
    obtain ⟨c0, c1, c3, c11, c12, c14⟩ := edC HR3.out
    simp only [Nat.zero_add] at c0 c1 c3 c11 c12 c14
    cases hm : mayB x
    · have HOE := Lib.hid (show oneE l x = ([], 1) by unfold oneE; simp [hrs, hm])
      go_wp2_with fail
      go_ret2
      refine ⟨_, by rw [HOE.out]; rfl, by rw [HOE.out]; exact .inl ⟨rfl, rfl⟩, T3.out, ty24_nil _⟩
    · go_wp2_with fail
      refine (find2 w3 v l x.e.id HV3.out HRS.out hb).mono ?_
      rintro r w4 ⟨o, bb, rfl, hc, t4⟩
      have T4 := Lib.hid (T3.out.trans t4 (fun _ _ => id))
      have HV4 := Lib.hid (HV3.out.turn t4 (fun _ _ => id))
      have HR4 := Lib.hid (rangeAt_turn HR3.out t4 id)
      clear t4 c0 c1 c3 c11 c12 c14
      obtain ⟨c0, c1, c3, c11, c12, c14⟩ := edC HR4.out
      simp only [Nat.zero_add] at c0 c1 c3 c11 c12 c14
      obtain ⟨Z, hZ⟩ : ∃ Z, w4.heap.size = Z := ⟨_, rfl⟩
      obtain ⟨w5, hw5⟩ : ∃ wz, w4.alloc (.cells el0.vals.toArray 24) = wz := ⟨_, rfl⟩
      have hx0 : ∀ ev op, op.op = .alloc 24 → (execOp ev op).run Try.prog w4 = .ok (.value (.pointer (some ⟨Z, 0, none⟩))) w5 := fun ev op ho => by rw [← hw5, ← hZ]; exact exec_zero24 ev op ho _
      have hb0 := box_alloc w4 24 el0.vals
      rw [hw5] at hb0
      have hh0 := hb0.heap
      rw [hZ] at hh0
      have HXX0 := Lib.hid hx0
      have HB0 := Lib.hid hb0
      have HH0 := Lib.hid hh0
      have HE0 := Lib.hid hZ
      clear hb0 hZ hw5 hx0 hh0
      go_wp2_with (with_reducible (show wpList _ _ _ (Oper.mk (some 6) (.alloc 24) _ _ _ _ :: _) _ _); refine still ?_)
      refine list_exec rfl _ _ (HXX0.out _ _ rfl) ?_
      go_wp2_with (with_reducible (show wpList _ _ _ (Oper.mk none (.store 24 (.tmp 6) (.tmp 20)) _ _ _ _ :: _) _ _); refine still ?_)
      refine list_put w5 Z 24 el0.vals o.vals HH0.out rfl o.vals_one el_info rfl (.tmp 6) (.tmp 20) rfl rfl rfl (fun w6 h6 t6 => ?_)
      have t6' := HB0.out.turn.trans t6 (fun q hq e => by have := HE0.out; omega)
      have HZ6 := Lib.hid h6
      clear h6 t6
      have T6 := Lib.hid (T4.out.trans t6' (fun _ _ => id))
      have HV6 := Lib.hid (HV4.out.turn t6' (fun _ _ => id))
      have HR6 := Lib.hid (rangeAt_turn HR4.out t6' id)
      clear t6' c0 c1 c3 c11 c12 c14
      obtain ⟨c0, c1, c3, c11, c12, c14⟩ := edC HR6.out
      simp only [Nat.zero_add] at c0 c1 c3 c11 c12 c14
      have hop := may_op hm
      have hcf := find_any
      clear hcf
      rcases hc with ⟨rfl, hg⟩ | ⟨rfl, hg, rfl⟩
      · have HG := Lib.hid hg
        have hko : 0 ≤ o.kind ∧ o.kind ≤ 255 := HKO.out o (getE_some hg).1
        rcases hop with ho | ho | ho
        · rw [ho] at c0
          have HOE := Lib.hid (show oneE l x = ([], 3) by unfold oneE; simp [hrs, hm, hg, ho])
          go_wp2_with fail
          go_ret2
          refine ⟨_, by rw [HOE.out]; rfl, by rw [HOE.out]; exact .inl ⟨rfl, rfl⟩, T6.out, ty24_nil _⟩
        · rw [ho] at c0
          have hce : cutC l x = cutB l x := by unfold cutC cutB; rw [if_neg (by omega)]
          have hse : staleE o x = !decide (o = x.e) := by unfold staleE; rw [if_pos ho]
          go_wp2_with (with_reducible (show wpList _ _ _ (Oper.mk (some 38) (.load 24 (.tmp 6)) _ _ _ _ :: _) _ _); refine still ?_)
          refine wpList_load_mid rfl 24 (.tmp 6) rfl Z 0 rfl o.vals _ (range_of HZ6.out) Try.underlying24 rfl el_info ?_
          go_wp2_with (with_reducible (show wpList _ _ _ (Oper.mk (some 39) (.load 28 (.tmp 3)) _ _ _ _ :: _) _ _); refine still ?_)
          refine wpList_load_mid rfl 28 (.tmp 3) rfl X 0 rfl x.vals _ HR6.out Try.underlying28 rfl ed_info ?_
          go_wp2_with fail
          refine (stale_any o x hko w6).mono ?_
          rintro r w7 ⟨rfl, t7⟩
          have HZ7 := Lib.hid (rangeAt_turn (range_of HZ6.out) t7 id)
          have T7 := Lib.hid (T6.out.trans t7 (fun _ _ => id))
          have HV7 := Lib.hid (HV6.out.turn t7 (fun _ _ => id))
          have HR7 := Lib.hid (rangeAt_turn HR6.out t7 id)
          clear t7 c0 c1 c3 c11 c12 c14
          obtain ⟨c0, c1, c3, c11, c12, c14⟩ := edC HR7.out
          simp only [Nat.zero_add] at c0 c1 c3 c11 c12 c14
          rw [hse]
          rw [ho] at c0
          by_cases he : o = x.e
          · have d1 : decide (o = x.e) = true := decide_eq_true he
            rw [d1]
            go_wp2_with (with_reducible (show wpList _ _ _ (Oper.mk (some 43) (.load 28 (.tmp 3)) _ _ _ _ :: _) _ _); refine still ?_)
            refine wpList_load_mid rfl 28 (.tmp 3) rfl X 0 rfl x.vals _ HR7.out Try.underlying28 rfl ed_info ?_
            go_wp2_with fail
            refine (cut_any w7 v l x HV7.out HRS.out hb).mono ?_
            rintro r w8 ⟨rfl, t8⟩
            have HZ8 := Lib.hid (rangeAt_turn HZ7.out t8 id)
            have T8 := Lib.hid (T7.out.trans t8 (fun _ _ => id))
            have HV8 := Lib.hid (HV7.out.turn t8 (fun _ _ => id))
            have HR8 := Lib.hid (rangeAt_turn HR7.out t8 id)
            clear t8 c0 c1 c3 c11 c12 c14
            obtain ⟨c0, c1, c3, c11, c12, c14⟩ := edC HR8.out
            simp only [Nat.zero_add] at c0 c1 c3 c11 c12 c14
            rw [hce]
            rw [ho] at c0
            cases hcu : cutB l x
            · have HOE := Lib.hid (show oneE l x = (dropE l x.e.id, 0) by unfold oneE; simp [hrs, hm, hg, ho, he, hcu])
              clear hg hse hce he
              go_wp2_with fail
              refine (drop_any w8 v l x.e.id HV8.out HRS.out hb).mono ?_
              rintro r w9 hne
              obtain ⟨v9, rfl, hv9, t9, ty9⟩ := newEls_row hne
              go_wp2_with fail
              go_ret2
              refine ⟨_, by rw [HOE.out]; rfl, by rw [HOE.out]; exact hv9, T8.out.trans t9 (fun _ _ => id), ty9⟩
            · have HOE := Lib.hid (show oneE l x = ([], 14) by unfold oneE; simp [hrs, hm, hg, ho, he, hcu])
              clear hg hse hce he
              go_wp2_with fail
              go_ret2
              refine ⟨_, by rw [HOE.out]; rfl, by rw [HOE.out]; exact .inl ⟨rfl, rfl⟩, T8.out, ty24_nil _⟩
          · have d1 : decide (o = x.e) = false := decide_eq_false he
            rw [d1]
            have HOE := Lib.hid (show oneE l x = ([], 11) by unfold oneE; simp [hrs, hm, hg, ho, he])
            clear hg hse hce he
            go_wp2_with fail
            go_ret2
            refine ⟨_, by rw [HOE.out]; rfl, by rw [HOE.out]; exact .inl ⟨rfl, rfl⟩, T7.out, ty24_nil _⟩
        · rw [ho] at c0
          have hce : cutC l x = (decide (x.f = 1) && (lacksB l x.on || lacksB l x.nn)) := by unfold cutC; rw [if_pos ho]
          have hse : staleE o x = !decide (getN o x.f = x.on ∧ getS o x.f = x.os) := by unfold staleE; rw [if_neg (by omega), if_pos ho]
          go_wp2_with (with_reducible (show wpList _ _ _ (Oper.mk (some 38) (.load 24 (.tmp 6)) _ _ _ _ :: _) _ _); refine still ?_)
          refine wpList_load_mid rfl 24 (.tmp 6) rfl Z 0 rfl o.vals _ (range_of HZ6.out) Try.underlying24 rfl el_info ?_
          go_wp2_with (with_reducible (show wpList _ _ _ (Oper.mk (some 39) (.load 28 (.tmp 3)) _ _ _ _ :: _) _ _); refine still ?_)
          refine wpList_load_mid rfl 28 (.tmp 3) rfl X 0 rfl x.vals _ HR6.out Try.underlying28 rfl ed_info ?_
          go_wp2_with fail
          refine (stale_any o x hko w6).mono ?_
          rintro r w7 ⟨rfl, t7⟩
          have HZ7 := Lib.hid (rangeAt_turn (range_of HZ6.out) t7 id)
          have T7 := Lib.hid (T6.out.trans t7 (fun _ _ => id))
          have HV7 := Lib.hid (HV6.out.turn t7 (fun _ _ => id))
          have HR7 := Lib.hid (rangeAt_turn HR6.out t7 id)
          clear t7 c0 c1 c3 c11 c12 c14
          obtain ⟨c0, c1, c3, c11, c12, c14⟩ := edC HR7.out
          simp only [Nat.zero_add] at c0 c1 c3 c11 c12 c14
          rw [hse]
          rw [ho] at c0
          by_cases he : getN o x.f = x.on ∧ getS o x.f = x.os
          · have d1 : decide (getN o x.f = x.on ∧ getS o x.f = x.os) = true := decide_eq_true he
            rw [d1]
            go_wp2_with (with_reducible (show wpList _ _ _ (Oper.mk (some 43) (.load 28 (.tmp 3)) _ _ _ _ :: _) _ _); refine still ?_)
            refine wpList_load_mid rfl 28 (.tmp 3) rfl X 0 rfl x.vals _ HR7.out Try.underlying28 rfl ed_info ?_
            go_wp2_with fail
            refine (cut_any w7 v l x HV7.out HRS.out hb).mono ?_
            rintro r w8 ⟨rfl, t8⟩
            have HZ8 := Lib.hid (rangeAt_turn HZ7.out t8 id)
            have T8 := Lib.hid (T7.out.trans t8 (fun _ _ => id))
            have HV8 := Lib.hid (HV7.out.turn t8 (fun _ _ => id))
            have HR8 := Lib.hid (rangeAt_turn HR7.out t8 id)
            clear t8 c0 c1 c3 c11 c12 c14
            obtain ⟨c0, c1, c3, c11, c12, c14⟩ := edC HR8.out
            simp only [Nat.zero_add] at c0 c1 c3 c11 c12 c14
            rw [hce]
            rw [ho] at c0
            cases hcu : (decide (x.f = 1) && (lacksB l x.on || lacksB l x.nn))
            · have hn : ¬ (x.f = 1 ∧ (lacksB l x.on || lacksB l x.nn) = true) := fun h => by rw [decide_eq_true h.1, h.2] at hcu; cases hcu
              have HOE := Lib.hid (show oneE l x = (putE l (setV o x.f x.nn x.ns), 0) by unfold oneE; rw [if_neg (by simp [hrs]), if_neg (by simp [hm]), hg]; simp only []; rw [if_neg (by omega), if_neg (by omega), if_pos he, if_neg hn])
              clear hg hse hce he hn hcu
              go_wp2_with (with_reducible (show wpList _ _ _ (Oper.mk (some 61) (.load 24 (.tmp 6)) _ _ _ _ :: _) _ _); refine still ?_)
              refine wpList_load_mid rfl 24 (.tmp 6) rfl Z 0 rfl o.vals _ HZ8.out Try.underlying24 rfl el_info ?_
              go_wp2_with (with_reducible (show wpList _ _ _ (Oper.mk (some 65) (.load 26 (.tmp 64)) _ _ _ _ :: _) _ _); refine still ?_)
              refine wpList_load_mid rfl 26 (.tmp 64) rfl X 14 rfl (vl x.nn x.ns) _ (by have := edN HR8.out; rwa [Nat.zero_add] at this) Try.underlying26 rfl vl_info ?_
              go_wp2_with fail
              refine (with_any w8 o x.f x.nn x.ns).mono ?_
              rintro r w8b ⟨rfl, t8b⟩
              have HV8b := Lib.hid (HV8.out.turn t8b (fun _ _ => id))
              have T8b := Lib.hid (T8.out.trans t8b (fun _ _ => id))
              clear t8b
              go_wp2_with fail
              refine (put_any w8b v l (setV o x.f x.nn x.ns) HV8b.out HRS.out hb).mono ?_
              rintro r w9 hne
              obtain ⟨v9, rfl, hv9, t9, ty9⟩ := newEls_row hne
              go_wp2_with fail
              go_ret2
              refine ⟨_, by rw [HOE.out]; rfl, by rw [HOE.out]; exact hv9, T8b.out.trans t9 (fun _ _ => id), ty9⟩
            · have hn : (x.f = 1 ∧ (lacksB l x.on || lacksB l x.nn) = true) := by rw [Bool.and_eq_true, decide_eq_true_eq] at hcu; exact hcu
              have HOE := Lib.hid (show oneE l x = ([], 14) by unfold oneE; rw [if_neg (by simp [hrs]), if_neg (by simp [hm]), hg]; simp only []; rw [if_neg (by omega), if_neg (by omega), if_pos he, if_pos hn])
              clear hg hse hce he hn hcu
              go_wp2_with fail
              go_ret2
              refine ⟨_, by rw [HOE.out]; rfl, by rw [HOE.out]; exact .inl ⟨rfl, rfl⟩, T8.out, ty24_nil _⟩
          · have d1 : decide (getN o x.f = x.on ∧ getS o x.f = x.os) = false := decide_eq_false he
            rw [d1]
            have HOE := Lib.hid (show oneE l x = ([], 11) by unfold oneE; rw [if_neg (by simp [hrs]), if_neg (by simp [hm]), hg]; simp only []; rw [if_neg (by omega), if_neg (by omega), if_neg he])
            clear hg hse hce he
            go_wp2_with fail
            go_ret2
            refine ⟨_, by rw [HOE.out]; rfl, by rw [HOE.out]; exact .inl ⟨rfl, rfl⟩, T7.out, ty24_nil _⟩
      · have HG := Lib.hid hg
        rcases hop with ho | ho | ho
        · rw [ho] at c0
          have hce : cutC l x = cutB l x := by unfold cutC cutB; rw [if_neg (by omega)]
          have hse : staleE el0 x = false := by unfold staleE; rw [if_neg (by omega), if_neg (by omega)]
          go_wp2_with (with_reducible (show wpList _ _ _ (Oper.mk (some 38) (.load 24 (.tmp 6)) _ _ _ _ :: _) _ _); refine still ?_)
          refine wpList_load_mid rfl 24 (.tmp 6) rfl Z 0 rfl el0.vals _ (range_of HZ6.out) Try.underlying24 rfl el_info ?_
          go_wp2_with (with_reducible (show wpList _ _ _ (Oper.mk (some 39) (.load 28 (.tmp 3)) _ _ _ _ :: _) _ _); refine still ?_)
          refine wpList_load_mid rfl 28 (.tmp 3) rfl X 0 rfl x.vals _ HR6.out Try.underlying28 rfl ed_info ?_
          go_wp2_with fail
          refine (stale_any el0 x (by decide) w6).mono ?_
          rintro r w7 ⟨rfl, t7⟩
          have HZ7 := Lib.hid (rangeAt_turn (range_of HZ6.out) t7 id)
          have T7 := Lib.hid (T6.out.trans t7 (fun _ _ => id))
          have HV7 := Lib.hid (HV6.out.turn t7 (fun _ _ => id))
          have HR7 := Lib.hid (rangeAt_turn HR6.out t7 id)
          clear t7 c0 c1 c3 c11 c12 c14
          obtain ⟨c0, c1, c3, c11, c12, c14⟩ := edC HR7.out
          simp only [Nat.zero_add] at c0 c1 c3 c11 c12 c14
          rw [hse]
          rw [ho] at c0
          go_wp2_with (with_reducible (show wpList _ _ _ (Oper.mk (some 43) (.load 28 (.tmp 3)) _ _ _ _ :: _) _ _); refine still ?_)
          refine wpList_load_mid rfl 28 (.tmp 3) rfl X 0 rfl x.vals _ HR7.out Try.underlying28 rfl ed_info ?_
          go_wp2_with fail
          refine (cut_any w7 v l x HV7.out HRS.out hb).mono ?_
          rintro r w8 ⟨rfl, t8⟩
          have HZ8 := Lib.hid (rangeAt_turn HZ7.out t8 id)
          have T8 := Lib.hid (T7.out.trans t8 (fun _ _ => id))
          have HV8 := Lib.hid (HV7.out.turn t8 (fun _ _ => id))
          have HR8 := Lib.hid (rangeAt_turn HR7.out t8 id)
          clear t8 c0 c1 c3 c11 c12 c14
          obtain ⟨c0, c1, c3, c11, c12, c14⟩ := edC HR8.out
          simp only [Nat.zero_add] at c0 c1 c3 c11 c12 c14
          rw [hce]
          rw [ho] at c0
          cases hcu : cutB l x
          · have HOE := Lib.hid (show oneE l x = (putE l x.e, 0) by unfold oneE; simp [hrs, hm, hg, ho, hcu])
            clear hg hse hce
            go_wp2_with (with_reducible (show wpList _ _ _ (Oper.mk (some 51) (.load 24 (.tmp 50)) _ _ _ _ :: _) _ _); refine still ?_)
            refine wpList_load_mid rfl 24 (.tmp 50) rfl X 1 rfl x.e.vals _ (by have := edE HR8.out; rwa [Nat.zero_add] at this) Try.underlying24 rfl el_info ?_
            go_wp2_with fail
            refine (put_any w8 v l x.e HV8.out HRS.out hb).mono ?_
            rintro r w9 hne
            obtain ⟨v9, rfl, hv9, t9, ty9⟩ := newEls_row hne
            go_wp2_with fail
            go_ret2
            refine ⟨_, by rw [HOE.out]; rfl, by rw [HOE.out]; exact hv9, T8.out.trans t9 (fun _ _ => id), ty9⟩
          · have HOE := Lib.hid (show oneE l x = ([], 14) by unfold oneE; simp [hrs, hm, hg, ho, hcu])
            clear hg hse hce
            go_wp2_with fail
            go_ret2
            refine ⟨_, by rw [HOE.out]; rfl, by rw [HOE.out]; exact .inl ⟨rfl, rfl⟩, T8.out, ty24_nil _⟩
        · rw [ho] at c0
          have HOE := Lib.hid (show oneE l x = ([], 2) by unfold oneE; simp [hrs, hm, hg, ho])
          go_wp2_with fail
          go_ret2
          refine ⟨_, by rw [HOE.out]; rfl, by rw [HOE.out]; exact .inl ⟨rfl, rfl⟩, T6.out, ty24_nil _⟩
        · rw [ho] at c0
          have HOE := Lib.hid (show oneE l x = ([], 2) by unfold oneE; simp [hrs, hm, hg, ho])
          go_wp2_with fail
          go_ret2
          refine ⟨_, by rw [HOE.out]; rfl, by rw [HOE.out]; exact .inl ⟨rfl, rfl⟩, T6.out, ty24_nil _⟩

end Go.Proofs.Ytbokdgcdkmnldaa
