/- Own contracts: may a chart have bytes, the document. No statement is proved here. -/
import Derived.Test.YtifhnidcodhoeaaBra0
import Derived.Test.YtifhnidcodhoeaaWg
namespace Go.Proofs.Ytifhnidcodhoeaa
set_option maxRecDepth 100000
open Go.RowKit
set_option linter.unusedVariables false
set_option linter.unusedSimpArgs false


theorem right_no_fine {l : List El} {k : Nat} (hk : k < l.length) (h : fineB (l.getD k el0) = false) : rightE l = false := by
  rw [rightE, allFine_no hk h, Bool.and_false, Bool.and_false]
set_option maxHeartbeats 4000000 in
theorem rright_any (w : World) (v : Value) (l : List El) (hv : RowV w v l) (hb : l.length ≤ 1000000000000) : Calls Try.prog 17 #[v] w fun e w' => e = .returned (.bool (rightE l)) ∧ Turn (fun _ => False) w w' := by
  obtain ⟨la, lc, rfl⟩ := hv.form
  obtain ⟨n, hn⟩ : ∃ n, l.length = n := ⟨_, rfl⟩
  rw [hn] at hv hb
  simp only [hn]
  have HV := Lib.hid hv
  have HN := Lib.hid hn
  have HRE := Lib.hid (show rightE l = (decide (n ≤ 40) && (risesB l && allFine l)) from by unfold rightE; rw [hn])
  clear hv hn
  by_cases h1 : 40 < n
  · have d1 : decide ((40 : Int) < (n : Int)) = true := decide_eq_true (by omega)
    have d2 : decide (n ≤ 40) = false := decide_eq_false (by omega)
    have D2 := Lib.hid d2
    go_enter Try.func17, Try.ntmps17
    go_wp2_with fail
    go_ret
    exact ⟨by rw [HRE.out, D2.out]; rfl, Turn.refl _ _⟩
  have d1 : decide ((40 : Int) < (n : Int)) = false := decide_eq_false (by omega)
  have D2 := Lib.hid (show decide (n ≤ 40) = true from decide_eq_true (by omega))
  cases hrb : risesB l
  · have HB := Lib.hid hrb
    clear hrb
    go_enter Try.func17, Try.ntmps17
    go_wp2_with (go_at_call 32; refine (rrises_any w _ l HV.out (by rw [HN.out]; exact hb)).mono ?_; rintro r w2 ⟨rfl, t2⟩; rw [HB.out]; have T2 := Lib.hid t2; clear t2)
    go_ret
    exact ⟨by rw [HRE.out, D2.out, HB.out]; rfl, T2.out⟩
  have HB := Lib.hid hrb
  clear hrb
  go_enter Try.func17, Try.ntmps17
  go_wp2_with (go_at_call 32; refine (rrises_any w _ l HV.out (by rw [HN.out]; exact hb)).mono ?_; rintro r w2 ⟨rfl, t2⟩; rw [HB.out]; have T2 := Lib.hid t2; clear t2)
  go_loopw [3] (fun iv wr => ∃ k : Nat, k ≤ n ∧ iv = .int .i64 (k : Int) ∧ (∀ j, j < k → fineB (l.getD j el0) = true) ∧ Turn (fun _ => False) w wr) (fun iv _ => n - (intOf iv).toNat)
  case atStart => exact ⟨0, Nat.zero_le _, rfl, fun j hj => by omega, T2.out⟩
  case round =>
    obtain ⟨k, hk, rfl, hbef, htr⟩ := hrel
    have HBEF := Lib.hid hbef
    have HTR := Lib.hid htr
    clear hbef htr
    by_cases hlt : k < n
    · obtain ⟨b, o, rfl, hc, hs1⟩ := (HV.out.turn HTR.out (fun _ _ => id)).one HN.out k hlt
      have gi : (0 : Int) ≤ (k : Int) ∧ (k : Int) < (n : Int) := by omega
      have dk : decide ((k : Int) < (n : Int)) = true := decide_eq_true (by omega)
      obtain ⟨x, hx⟩ : ∃ x, l.getD k el0 = x := ⟨_, rfl⟩
      rw [hx] at hs1
      have HX := Lib.hid hx
      have HS := Lib.hid hs1
      clear hx hs1
      have hbb := box_alloc wr 35 el0.vals
      obtain ⟨E, hE⟩ : ∃ E, wr.heap.size = E := ⟨_, rfl⟩
      obtain ⟨wz, hwz⟩ : ∃ wz, wr.alloc (.cells el0.vals.toArray 35) = wz := ⟨_, rfl⟩
      have hx0 : ∀ ev op, op.op = .alloc 35 → (execOp ev op).run Try.prog wr = .ok (.value (.pointer (some ⟨E, 0, none⟩))) wz := fun ev op ho => by rw [← hwz, ← hE]; exact exec_zero24 ev op ho _
      rw [hwz] at hbb
      have hhh := hbb.heap
      rw [hE] at hhh
      have HX0 := Lib.hid hx0
      have HBB := Lib.hid hbb.turn
      have HHB := Lib.hid hhh
      have HEE := Lib.hid hE
      clear hbb hE hwz hx0 hhh
      go_wp2_with (with_reducible (show wpList _ _ _ (Oper.mk (some 24) (.load 35 (.tmp 23)) _ _ _ _ :: _) _ _); refine still ?_)
      refine wpList_load_mid rfl 35 (.tmp 23) rfl b (o + k * 10) rfl x.vals _ HS.out Try.underlying35 rfl el_info ?_
      go_wp2_with (with_reducible (show wpList _ _ _ (Oper.mk (some 4) (.alloc 35) _ _ _ _ :: _) _ _); refine still ?_)
      refine list_exec rfl _ _ (HX0.out _ _ rfl) ?_
      go_wp2_with (with_reducible (show wpList _ _ _ (Oper.mk none (.store 35 (.tmp 4) (.tmp 24)) _ _ _ _ :: _) _ _); refine still ?_)
      refine list_put wz E 35 el0.vals x.vals HHB.out rfl x.vals_one el_info rfl (.tmp 4) (.tmp 24) rfl rfl rfl (fun wa h2 t2 => ?_)
      have HE := Lib.hid h2
      have Twa := Lib.hid (show Turn (fun _ => False) wr wa from HBB.out.trans t2 (fun q hq e => by have := HEE.out; omega))
      have LE := Lib.hid (show wr.heap.size = E from HEE.out)
      clear h2 t2 HX0 HBB HHB HEE
      have c0 := (cellsE (range_of HE.out)).c0
      simp only [Nat.zero_add] at c0
      have TA := Lib.hid (HTR.out.trans Twa.out (fun _ _ => id))
      by_cases h1 : x.id < 1
      · have HF := Lib.hid (fine_id (x := x) (by omega))
        have d1 : decide (x.id < 1) = true := decide_eq_true h1
        go_wp2_with fail
        go_ret
        exact ⟨by rw [right_no_fine (k := k) (by rw [HN.out]; exact hlt) (by rw [HX.out]; exact HF.out)]; rfl, TA.out⟩
      have e1 : decide (x.id < 1) = false := decide_eq_false h1
      by_cases h2 : 1048576 < x.id
      · have HF := Lib.hid (fine_id (x := x) (by omega))
        have d2 : decide (1048576 < x.id) = true := decide_eq_true h2
        go_wp2_with fail
        go_ret
        exact ⟨by rw [right_no_fine (k := k) (by rw [HN.out]; exact hlt) (by rw [HX.out]; exact HF.out)]; rfl, TA.out⟩
      have e2 : decide (1048576 < x.id) = false := decide_eq_false h2
      obtain ⟨B, w3, hx3, hc3, t3⟩ := row_n4 wa x
      have HX3 := Lib.hid hx3
      have HC3 := Lib.hid hc3
      have T3 := Lib.hid t3
      have TB := Lib.hid (TA.out.trans t3 (fun _ _ => id))
      clear hx3 hc3 t3
      obtain ⟨_, c1, c2, c3, c4, c5, c6, c7, c8, c9⟩ := cellsE (range_of HE.out)
      simp only [Nat.zero_add] at c2 c3 c5 c6
      clear c1 c4 c7 c8 c9
      go_wp2_with (with_reducible (show wpList _ _ _ (Oper.mk (some 41) _ _ _ _ _ :: _) _ _); refine still ?_)
      refine list_exec rfl _ _ (HX3.out _ _ (.tmp 34) (.tmp 36) (.tmp 38) (.tmp 40) rfl rfl rfl rfl rfl) ?_
      clear c0 c2 c3 c5 c6
      go_wp2_with fail
      go_loop [43] (fun iv => ∃ i : Nat, i ≤ 4 ∧ iv = .int .i64 (i : Int) ∧ ∀ j, j < i → okN (nsP x j) = true) (fun iv => 4 - (intOf iv).toNat)
      case atStart => exact ⟨0, Nat.zero_le _, rfl, fun j hj => by omega⟩
      case round =>
        obtain ⟨i, hi, rfl, hall⟩ := hrel
        have HA := Lib.hid hall
        clear hall
        by_cases hl4 : i < 4
        · have cc := HC3.out i hl4
          have gk : (0 : Int) ≤ (i : Int) ∧ (i : Int) < 4 := by omega
          have dk : decide ((i : Int) < 4) = true := decide_eq_true (by omega)
          obtain ⟨N, hN⟩ : ∃ N, nsP x i = N := ⟨_, rfl⟩
          rw [hN] at cc
          have HN2 := Lib.hid hN
          clear hN
          by_cases n1 : N < 0
          · have f1 : decide (N < 0) = true := decide_eq_true n1
            have HF := Lib.hid (fine_ns (x := x) hl4 (by rw [HN2.out]; unfold okN; exact decide_eq_false (by omega)))
            go_wp2_with fail
            go_ret
            exact ⟨by rw [right_no_fine (k := k) (by rw [HN.out]; exact hlt) (by rw [HX.out]; exact HF.out)]; rfl, TB.out⟩
          · have f1 : decide (N < 0) = false := decide_eq_false n1
            by_cases n2 : 1048576 < N
            · have f2 : decide (1048576 < N) = true := decide_eq_true n2
              have HF := Lib.hid (fine_ns (x := x) hl4 (by rw [HN2.out]; unfold okN; exact decide_eq_false (by omega)))
              go_wp2_with fail
              go_ret
              exact ⟨by rw [right_no_fine (k := k) (by rw [HN.out]; exact hlt) (by rw [HX.out]; exact HF.out)]; rfl, TB.out⟩
            · have f2 : decide (1048576 < N) = false := decide_eq_false n2
              have HG := Lib.hid (show okN N = true from by unfold okN; exact decide_eq_true (by omega))
              go_wp2_with fail
              go_round
              case rel => exact ⟨i + 1, by omega, by go_num, fun j hj => by
                by_cases e : j = i
                · subst e; rw [HN2.out]; exact HG.out
                · exact HA.out j (by omega)⟩
              case measure => simp [intOf]; omega
        · obtain rfl : i = 4 := by omega
          have dk : decide (((4 : Nat) : Int) < 4) = false := by decide
          obtain ⟨_, c1, c2, c3, c4, c5, c6, c7, c8, c9⟩ := cellsE (rangeAt_turn (range_of HE.out) T3.out id)
          simp only [Nat.zero_add] at c4 c7 c8 c9
          clear c1 c2 c3 c5 c6
          by_cases s0 : 12 < x.name.size
          · have f0 : decide ((12 : Int) < (x.name.size : Int)) = true := decide_eq_true (by omega)
            have g0 : decide (12 < x.name.size) = true := decide_eq_true s0
            have HF := Lib.hid (fine_ss (x := x) (k := 0) (by omega) s0)
            go_wp2_with fail
            go_ret
            exact ⟨by rw [right_no_fine (k := k) (by rw [HN.out]; exact hlt) (by rw [HX.out]; exact HF.out)]; rfl, TB.out⟩
          have f0 : decide ((12 : Int) < (x.name.size : Int)) = false := decide_eq_false (by omega)
          have g0 : decide (12 < x.name.size) = false := decide_eq_false s0
          by_cases s1 : 12 < x.ev.size
          · have f1 : decide ((12 : Int) < (x.ev.size : Int)) = true := decide_eq_true (by omega)
            have g1 : decide (12 < x.ev.size) = true := decide_eq_true s1
            have HF := Lib.hid (fine_ss (x := x) (k := 1) (by omega) s1)
            go_wp2_with fail
            go_ret
            exact ⟨by rw [right_no_fine (k := k) (by rw [HN.out]; exact hlt) (by rw [HX.out]; exact HF.out)]; rfl, TB.out⟩
          have f1 : decide ((12 : Int) < (x.ev.size : Int)) = false := decide_eq_false (by omega)
          have g1 : decide (12 < x.ev.size) = false := decide_eq_false s1
          by_cases s2 : 12 < x.gd.size
          · have f2 : decide ((12 : Int) < (x.gd.size : Int)) = true := decide_eq_true (by omega)
            have g2 : decide (12 < x.gd.size) = true := decide_eq_true s2
            have HF := Lib.hid (fine_ss (x := x) (k := 2) (by omega) s2)
            go_wp2_with fail
            go_ret
            exact ⟨by rw [right_no_fine (k := k) (by rw [HN.out]; exact hlt) (by rw [HX.out]; exact HF.out)]; rfl, TB.out⟩
          have f2 : decide ((12 : Int) < (x.gd.size : Int)) = false := decide_eq_false (by omega)
          have g2 : decide (12 < x.gd.size) = false := decide_eq_false s2
          by_cases s3 : 12 < x.ac.size
          · have f3 : decide ((12 : Int) < (x.ac.size : Int)) = true := decide_eq_true (by omega)
            have g3 : decide (12 < x.ac.size) = true := decide_eq_true s3
            have HF := Lib.hid (fine_ss (x := x) (k := 3) (by omega) s3)
            go_wp2_with fail
            go_ret
            exact ⟨by rw [right_no_fine (k := k) (by rw [HN.out]; exact hlt) (by rw [HX.out]; exact HF.out)]; rfl, TB.out⟩
          have f3 : decide ((12 : Int) < (x.ac.size : Int)) = false := decide_eq_false (by omega)
          have g3 : decide (12 < x.ac.size) = false := decide_eq_false s3
          have HF := Lib.hid (fine_all (x := x) (by omega) HA.out (fun j hj => by
            rcases (by omega : j = 0 ∨ j = 1 ∨ j = 2 ∨ j = 3) with rfl | rfl | rfl | rfl
            · exact Nat.le_of_not_lt s0
            · exact Nat.le_of_not_lt s1
            · exact Nat.le_of_not_lt s2
            · exact Nat.le_of_not_lt s3))
          clear s0 s1 s2 s3
          go_wp2_with fail
          go_roundw
          case rel => exact ⟨k + 1, by omega, by go_num, fun j hj => by
            by_cases e : j = k
            · subst e; rw [HX.out]; exact HF.out
            · exact HBEF.out j (by omega), TB.out⟩
          case measure => simp [intOf]; omega
    · have dk : decide ((k : Int) < (n : Int)) = false := decide_eq_false (by omega)
      have HF := Lib.hid (allFine_yes (l := l) (fun j hj => HBEF.out j (by rw [HN.out] at hj; omega)))
      go_wp2_with fail
      go_ret
      exact ⟨by rw [HRE.out, D2.out, HB.out, HF.out]; rfl, HTR.out⟩
end Go.Proofs.Ytifhnidcodhoeaa
