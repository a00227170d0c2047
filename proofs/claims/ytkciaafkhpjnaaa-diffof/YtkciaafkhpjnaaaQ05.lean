/- Own texts, packed: Bs. No statement is proved here. -/
import Derived.Test.YtkciaafkhpjnaaaQ04
import Derived.Deep.LoopGhost
namespace Go.Proofs.Ytkciaafkhpjnaaa
set_option maxRecDepth 100000
open Go.RowKit
set_option linter.unusedVariables false
set_option linter.unusedSimpArgs false


theorem wpList_exec_want {P : Program} {ops : Array Oper} {rest : List Oper} {op : Oper} {a : Act} {w : World} {Q : Exit → Act → World → Prop} (hw : Region.wanted op (yielded ops a.tmps) = true) (v : Value) (w' : World)
    (h : (execOp a.eval op).run P w = .ok (.value v) w') (h2 : wpList P ops Q rest (a.put op.dst v) w') : wpList P ops Q (op :: rest) a w := by
  unfold wpList
  rw [if_pos hw]
  refine .inl ?_
  unfold Oper.wp
  rw [h]
  exact h2
/-- How two numbers stand. -/
def cmpI (a b : Int) : Int := if a < b then -1 else if b < a then 1 else 0
theorem cmpI_lt {a b : Int} : cmpI a b < 0 ↔ a < b := by unfold cmpI; split <;> (try split) <;> omega
theorem cmpI_eq {a b : Int} : cmpI a b = 0 ↔ a = b := by unfold cmpI; split <;> (try split) <;> omega
theorem nan_any (a : Int) (w : World) : Calls Try.prog 62 #[.int .i64 a] w fun e w' => e = .returned (.bool false) ∧ w = w' := by
  have h : (a != a) = false := by simp
  go_enter Try.func62, Try.ntmps62
  go_wp2
  go_ret
  exact ⟨by first | rfl | simp, rfl⟩
theorem cmp_any (a b : Int) (w : World) : Calls Try.prog 46 #[.int .i64 a, .int .i64 b] w fun e w' => e = .returned (.int .i64 (cmpI a b)) ∧ w = w' := by
  by_cases h1 : a < b
  · have hc : cmpI a b = -1 := by unfold cmpI; rw [if_pos h1]
    rw [hc]
    have d1 : decide (a < b) = true := decide_eq_true h1
    clear hc
    go_enter Try.func46, Try.ntmps46
    go_wp2_with (go_at_call 62; refine (nan_any _ _).mono ?_; rintro e w' ⟨rfl, rfl⟩)
    go_ret
    exact ⟨rfl, rfl⟩
  · by_cases h2 : b < a
    · have hc : cmpI a b = 1 := by unfold cmpI; rw [if_neg h1, if_pos h2]
      rw [hc]
      have d1 : decide (a < b) = false := decide_eq_false h1
      have d2 : decide (b < a) = true := decide_eq_true h2
      clear hc
      go_enter Try.func46, Try.ntmps46
      go_wp2_with (go_at_call 62; refine (nan_any _ _).mono ?_; rintro e w' ⟨rfl, rfl⟩)
      go_ret
      exact ⟨rfl, rfl⟩
    · have hc : cmpI a b = 0 := by unfold cmpI; rw [if_neg h1, if_neg h2]
      rw [hc]
      have d1 : decide (a < b) = false := decide_eq_false h1
      have d2 : decide (b < a) = false := decide_eq_false h2
      clear hc
      go_enter Try.func46, Try.ntmps46
      go_wp2_with (go_at_call 62; refine (nan_any _ _).mono ?_; rintro e w' ⟨rfl, rfl⟩)
      go_ret
      exact ⟨rfl, rfl⟩
theorem clos_any (x : El) (nr : Int) (w : World) : Calls Try.prog 80 #[.agg x.vals.toArray, .int .i64 nr] w fun e w' => e = .returned (.int .i64 (cmpI x.id nr)) ∧ Turn (fun _ => False) w w' := by
  have hb := box_alloc w 38 x.vals
  obtain ⟨w1, hw1⟩ : ∃ w1, w.alloc (.cells x.vals.toArray 38) = w1 := ⟨_, rfl⟩
  rw [hw1] at hb
  have c0 := hb.cell 0 _ x.v0
  have HB := Lib.hid hb
  clear hb
  go_enter Try.func80, Try.ntmps80
  go_wp2_with fail
  refine (cmp_any _ _ _).mono ?_
  rintro e w' ⟨rfl, rfl⟩
  go_wp2_with fail
  go_ret
  exact ⟨rfl, HB.out.turn⟩
/-- Where a number stands, or would stand: all ahead of it are less, all from it on aren't. -/
structure IsPlace (l : List El) (nr : Int) (p : Nat) : Prop where
  le : p ≤ l.length
  lo : ∀ k, k < p → (l.getD k el0).id < nr
  hi : ∀ k, p ≤ k → k < l.length → nr ≤ (l.getD k el0).id
def thereB (l : List El) (nr : Int) (p : Nat) : Bool := decide (p < l.length ∧ (l.getD p el0).id = nr)
def PlacePost (w : World) (l : List El) (nr : Int) (e : Ending) (w' : World) : Prop := ∃ p : Nat, IsPlace l nr p ∧ e = .returned (.tuple #[.int .i64 (p : Int), .bool (thereB l nr p)]) ∧ Turn (fun _ => False) w w'
def Rises (l : List El) : Prop := l.Pairwise (fun a b => a.id < b.id)
theorem Rises.get {l : List El} (h : Rises l) {i j : Nat} (hij : i < j) (hj : j < l.length) : (l.getD i el0).id < (l.getD j el0).id := by
  have := (List.pairwise_iff_getElem.1 h) i j (by omega) hj hij
  simpa [List.getD, show i < l.length by omega, hj] using this
theorem Rises.nil : Rises [] := List.Pairwise.nil
set_option maxHeartbeats 1600000 in
theorem bin_any (w : World) (v : Value) (l : List El) (nr : Int) (hv : RowV w v l) (hr : Rises l) (hb : l.length ≤ 100000) : Calls Try.prog 79 #[v, .int .i64 nr, .func (.func 80) #[] #[]] w (PlacePost w l nr) := by
  obtain ⟨a, c, rfl⟩ := hv.form
  obtain ⟨n, hn⟩ : ∃ n, l.length = n := ⟨_, rfl⟩
  rw [hn] at hv
  have HV := Lib.hid hv
  have HN := Lib.hid hn
  have HR := Lib.hid hr
  rw [hn] at hb
  simp only [hn]
  clear hv hn hr
  go_enter Try.func79, Try.ntmps79
  go_wp2_with fail
  go_loopg [9, 10] n (fun g s5 s6 wr => ∃ lo hi : Nat, s5 = .int .i64 lo ∧ s6 = .int .i64 hi ∧ lo ≤ hi ∧ hi ≤ n ∧ hi - lo ≤ g ∧ (∀ k, k < lo → (l.getD k el0).id < nr) ∧ (∀ k, hi ≤ k → k < n → nr ≤ (l.getD k el0).id) ∧ Turn (fun _ => False) w wr)
  case atStart => exact ⟨0, n, rfl, rfl, Nat.zero_le _, Nat.le_refl _, by omega, fun k hk => by omega, fun k h1 h2 => by omega, Turn.refl _ _⟩
  case round =>
    obtain ⟨lo, hi, rfl, rfl, h1, h2, hg, hlo, hhi, T⟩ := hrel
    have HT := Lib.hid T
    have HLO := Lib.hid hlo
    have HHI := Lib.hid hhi
    clear T hlo hhi
    by_cases hlt : lo < hi
    · obtain ⟨m, hm⟩ : ∃ m, (lo + hi) / 2 = m := ⟨_, rfl⟩
      have hm1 : lo ≤ m := by omega
      have hm2 : m < hi := by omega
      have em : ((lo : Int) + (hi : Int)) / 2 = (m : Int) := by omega
      have HM := Lib.hid hm
      obtain ⟨b, o, rfl, hc, hs1⟩ := (HV.out.turn HT.out (fun _ _ => id)).one HN.out m (by omega)
      have gi : (0 : Int) ≤ (m : Int) ∧ (m : Int) < (n : Int) := by omega
      clear hm
      generalize hx : l.getD m el0 = x at *
      have HX := Lib.hid hx
      clear hx
      go_wp2_with (with_reducible (show wpList _ _ _ (Oper.mk (some 28) (.load 38 (.tmp 27)) _ _ _ _ :: _) _ _); refine still ?_)
      refine wpList_load_mid rfl 38 (.tmp 27) rfl b (o + m * 10) rfl x.vals _ hs1 Try.underlying38 rfl el_info ?_
      go_wp2_with fail
      refine (clos_any x nr wr).mono ?_
      rintro e w9 ⟨rfl, t9⟩
      have HT9 := Lib.hid (HT.out.trans t9 (fun _ _ => id))
      clear t9
      by_cases hq : x.id < nr
      · have d1 : decide (cmpI x.id nr < 0) = true := decide_eq_true (cmpI_lt.2 hq)
        have HQ := Lib.hid hq
        clear hq
        go_wp2_with fail
        go_roundg (hi - (m + 1))
        case measure => omega
        case rel => exact ⟨m + 1, hi, by go_num, rfl, by omega, h2, Nat.le_refl _, fun k hk => by
          by_cases e : k = m
          · subst e; rw [HX.out]; exact HQ.out
          · by_cases e2 : k < lo
            · exact HLO.out k e2
            · have := HR.out.get (i := k) (j := m) (by omega) (by rw [HN.out]; omega)
              rw [HX.out] at this
              have := HQ.out
              omega, HHI.out, HT9.out⟩
      · have d1 : decide (cmpI x.id nr < 0) = false := decide_eq_false (fun h => hq (cmpI_lt.1 h))
        have HQ := Lib.hid hq
        clear hq
        go_wp2_with fail
        go_roundg (m - lo)
        case measure => omega
        case rel => exact ⟨lo, m, rfl, rfl, hm1, by omega, Nat.le_refl _, HLO.out, fun k hk hkn => by
          by_cases e : k = m
          · subst e; rw [HX.out]; have := HQ.out; omega
          · by_cases e2 : hi ≤ k
            · exact HHI.out k e2 hkn
            · have := HR.out.get (i := m) (j := k) (by omega) (by rw [HN.out]; omega)
              rw [HX.out] at this
              have := HQ.out
              omega, HT9.out⟩
    · have hhl : hi = lo := by omega
      subst hhl
      have hpl : IsPlace l nr hi := ⟨by rw [HN.out]; exact h2, HLO.out, fun k hk hkn => HHI.out k hk (by rw [← HN.out]; exact hkn)⟩
      have HPL := Lib.hid hpl
      have htb : thereB l nr hi = decide (hi < n ∧ (l.getD hi el0).id = nr) := by unfold thereB; rw [HN.out]
      have HTB := Lib.hid htb
      clear hpl htb
      by_cases hin : hi < n
      · obtain ⟨b, o, rfl, hc, hs1⟩ := (HV.out.turn HT.out (fun _ _ => id)).one HN.out hi hin
        have gi : (0 : Int) ≤ (hi : Int) ∧ (hi : Int) < (n : Int) := by omega
        generalize hx : l.getD hi el0 = x at *
        have HX := Lib.hid hx
        clear hx
        go_wp2_with (with_reducible (show wpList _ _ _ (Oper.mk (some 44) (.load 38 (.tmp 43)) _ _ _ _ :: _) _ _); refine still ?_)
        refine wpList_exec_want (by rfl) _ _ (exec_load_mid _ _ 38 (.tmp 43) rfl b (o + hi * 10) rfl x.vals _ _ hs1 Try.underlying38 rfl el_info) ?_
        go_wp2_with fail
        refine (clos_any x nr wr).mono ?_
        rintro e w9 ⟨rfl, t9⟩
        have HT9 := Lib.hid (HT.out.trans t9 (fun _ _ => id))
        clear t9
        have hq : (cmpI x.id nr == 0) = decide (x.id = nr) := by
          rw [Bool.eq_iff_iff]; simp [cmpI_eq]
        go_wp2_with fail
        go_ret2
        refine ⟨hi, HPL.out, ?_, HT9.out⟩
        rw [HTB.out]
        simp [hq, hin]
      · go_wp2_with fail
        go_ret2
        refine ⟨hi, HPL.out, ?_, HT.out⟩
        rw [HTB.out]
        simp [hin]
theorem place_any (w : World) (v : Value) (l : List El) (nr : Int) (hv : RowV w v l) (hr : Rises l) (hb : l.length ≤ 100000) : Calls Try.prog 63 #[v, .int .i64 nr] w (PlacePost w l nr) := by
  go_enter Try.func63, Try.ntmps63
  go_wp2_with fail
  refine (bin_any w v l nr hv hr hb).mono ?_
  rintro e w' ⟨p, hp, rfl, ht⟩
  have HP := Lib.hid hp
  have HT := Lib.hid ht
  clear hp ht
  generalize hq : thereB l nr p = q
  have HQ := Lib.hid hq
  clear hq
  go_wp2_with fail
  go_ret2
  exact ⟨p, HP.out, by rw [HQ.out]; rfl, HT.out⟩
end Go.Proofs.Ytkciaafkhpjnaaa
