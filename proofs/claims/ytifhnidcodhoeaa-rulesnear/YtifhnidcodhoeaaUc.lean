/- Own contracts: rules: another one beside, or of that place. No statement is proved here. -/
import Derived.Test.YtifhnidcodhoeaaUb
namespace Go.Proofs.Ytifhnidcodhoeaa
set_option maxRecDepth 100000
open Go.RowKit
set_option linter.unusedVariables false
set_option linter.unusedSimpArgs false

/-- Another one of that name beside it. -/
def q3 (x y : El) : Bool := y.id != x.id && namedE y && y.par == x.par && y.name.toList == x.name.toList
/-- Another one of that place among those of its state. -/
def q7 (x y : El) : Bool := y.id != x.id && y.kind == 5 && y.frm == x.frm && y.ord == x.ord
set_option maxHeartbeats 4000000 in
theorem near_any (x y : El) (X : Nat) (w : World) (hx : w.rangeAt X 0 x.vals) : Calls Try.prog 37 #[.agg y.vals.toArray, .pointer (some ⟨X, 0, none⟩)] w fun r w' => r = .returned (.bool (q3 x y)) ∧ Turn (fun _ => False) w w' := by
  have hby := box_alloc w 35 y.vals
  obtain ⟨Y, hY⟩ : ∃ Y, w.heap.size = Y := ⟨_, rfl⟩
  obtain ⟨w1, hw1⟩ : ∃ w1, w.alloc (.cells y.vals.toArray 35) = w1 := ⟨_, rfl⟩
  rw [hw1] at hby
  have hr := hby.range
  rw [hY] at hr
  have hrx := rangeAt_turn hx hby.turn id
  obtain ⟨c0, c1, c2, c3, c4, c5, c6, c7, c8, c9⟩ := cellsE hr
  obtain ⟨d0, d1, d2, d3, d4, d5, d6, d7, d8, d9⟩ := cellsE hrx
  simp only [Nat.zero_add] at c0 c1 c2 c3 c4 c5 c6 c7 c8 c9 d0 d1 d2 d3 d4 d5 d6 d7 d8 d9
  have T1 := Lib.hid hby.turn
  have HR := Lib.hid hr
  have HRX := Lib.hid hrx
  clear hby hr hrx hx
  by_cases hid : y.id = x.id
  · have k1 : (y.id != x.id) = false := by simpa using hid
    have K1 := Lib.hid k1
    clear hid
    go_enter Try.func37, Try.ntmps37
    go_wp2_with fail
    go_ret
    exact ⟨by rw [q3, K1.out]; rfl, T1.out⟩
  · have k1 : (y.id != x.id) = true := by simpa using hid
    have K1 := Lib.hid k1
    clear hid
    go_enter Try.func37, Try.ntmps37
    go_wp2_with (with_reducible (show wpList _ _ _ (Oper.mk (some 10) (.load 35 (.tmp 2)) _ _ _ _ :: _) _ _); refine still ?_)
    refine wpList_exec_want (by rfl) _ _ (exec_load_mid _ _ 35 (.tmp 2) rfl Y 0 rfl y.vals _ _ HR.out Try.underlying35 rfl el_info) ?_
    go_wp2_with (go_at_call 36; refine (rnamed_any y w1).mono ?_; rintro r w9 ⟨rfl, t9⟩; (have T9 := Lib.hid (T1.out.trans t9 (fun _ _ => id))); (obtain ⟨e0, e1, e2, e3, e4, e5, e6, e7, e8, e9⟩ := cellsE (rangeAt_turn HR.out t9 id)); (obtain ⟨f0, f1, f2, f3, f4, f5, f6, f7, f8, f9⟩ := cellsE (rangeAt_turn HRX.out t9 id)); simp only [Nat.zero_add] at e0 e1 e2 e3 e4 e5 e6 e7 e8 e9 f0 f1 f2 f3 f4 f5 f6 f7 f8 f9; clear t9)
    all_goals (go_ret; refine ⟨?_, T9.out⟩)
    all_goals (refine congrArg (fun b => Ending.returned (Value.bool b)) ?_; unfold q3; rw [K1.out]; clear T1 HR HRX T9 K1; simp_all)
set_option maxHeartbeats 4000000 in
theorem rival_any (x y : El) (X : Nat) (w : World) (hx : w.rangeAt X 0 x.vals) : Calls Try.prog 40 #[.agg y.vals.toArray, .pointer (some ⟨X, 0, none⟩)] w fun r w' => r = .returned (.bool (q7 x y)) ∧ Turn (fun _ => False) w w' := by
  have hby := box_alloc w 35 y.vals
  obtain ⟨Y, hY⟩ : ∃ Y, w.heap.size = Y := ⟨_, rfl⟩
  obtain ⟨w1, hw1⟩ : ∃ w1, w.alloc (.cells y.vals.toArray 35) = w1 := ⟨_, rfl⟩
  rw [hw1] at hby
  have hr := hby.range
  rw [hY] at hr
  have hrx := rangeAt_turn hx hby.turn id
  obtain ⟨c0, c1, c2, c3, c4, c5, c6, c7, c8, c9⟩ := cellsE hr
  obtain ⟨d0, d1, d2, d3, d4, d5, d6, d7, d8, d9⟩ := cellsE hrx
  simp only [Nat.zero_add] at c0 c1 c2 c3 c4 c5 c6 c7 c8 c9 d0 d1 d2 d3 d4 d5 d6 d7 d8 d9
  have T1 := Lib.hid hby.turn
  have HR := Lib.hid hr
  have HRX := Lib.hid hrx
  clear hby hr hrx hx
  go_enter Try.func40, Try.ntmps40
  go_wp2_with fail
  all_goals (go_ret; refine ⟨?_, T1.out⟩)
  all_goals (refine congrArg (fun b => Ending.returned (Value.bool b)) ?_; unfold q7; clear T1 HR HRX; simp_all)
set_option maxHeartbeats 4000000 in
theorem idx_near (x : El) (X : Nat) (w : World) (v : Value) (l : List El) (hv : RowV w v l) (hb : l.length ≤ 1000) (hx : w.rangeAt X 0 x.vals) : Calls Try.prog 34 #[v, .func (.func 37) #[] #[.pointer (some ⟨X, 0, none⟩)]] w fun e w' => Turn (fun _ => False) w w' ∧ ((∃ k : Nat, k < l.length ∧ q3 x (l.getD k el0) = true ∧ e = .returned (.int .i64 (k : Int))) ∨ ((∀ j, j < l.length → q3 x (l.getD j el0) = false) ∧ e = .returned (.int .i64 (-1)))) := by
  obtain ⟨la, lc, rfl⟩ := hv.form
  obtain ⟨n, hn⟩ : ∃ n, l.length = n := ⟨_, rfl⟩
  rw [hn] at hv hb
  simp only [hn]
  have HV := Lib.hid hv
  have HX0 := Lib.hid hx
  have HN := Lib.hid hn
  clear hn hv hx
  go_enter Try.func34, Try.ntmps34
  go_wp2_with fail
  go_loopw [8] (fun iv wr => ∃ k : Nat, k ≤ n ∧ iv = .int .i64 (k : Int) ∧ (∀ j, j < k → q3 x (l.getD j el0) = false) ∧ Turn (fun _ => False) w wr) (fun iv _ => n - (intOf iv).toNat)
  case atStart => exact ⟨0, Nat.zero_le _, rfl, fun j hj => by omega, Turn.refl _ _⟩
  case round =>
    obtain ⟨k, hk, rfl, hne, tr⟩ := hrel
    have HNE := Lib.hid hne
    have HTR := Lib.hid tr
    clear hne tr
    by_cases hlt : k < n
    · obtain ⟨b, o, rfl, hc, hs1⟩ := (HV.out.turn HTR.out (fun _ _ => id)).one HN.out k hlt
      have hd1 : decide ((k : Int) < (n : Int)) = true := by simp; omega
      have gi : (0 : Int) ≤ (k : Int) ∧ (k : Int) < (n : Int) := by omega
      generalize hy : l.getD k el0 = y at *
      have HY := Lib.hid hy
      clear hy
      go_wp2_with (with_reducible (show wpList _ _ _ (Oper.mk (some 15) (.load 35 (.tmp 14)) _ _ _ _ :: _) _ _); refine still ?_)
      refine wpList_load_mid rfl 35 (.tmp 14) rfl b (o + k * 10) rfl y.vals _ hs1 Try.underlying35 rfl el_info ?_
      go_wp2_with fail
      refine (near_any x y X wr (rangeAt_turn HX0.out HTR.out id)).mono ?_
      rintro e w9 ⟨rfl, t9⟩
      have HT9 := Lib.hid (HTR.out.trans t9 (fun _ _ => id))
      clear t9
      cases he : q3 x y
      · have HE := Lib.hid he
        clear he
        go_wp2_with fail
        go_roundw
        case rel => exact ⟨k + 1, by omega, by go_num, fun j hj => by
          by_cases e : j = k
          · subst e; rw [HY.out]; exact HE.out
          · exact HNE.out j (by omega), HT9.out⟩
        case measure => simp [intOf]; omega
      · have HE := Lib.hid he
        clear he
        go_wp2_with fail
        go_ret
        exact ⟨HT9.out, .inl ⟨k, hlt, by rw [HY.out]; exact HE.out, rfl⟩⟩
    · have hke : k = n := by omega
      have hd1 : decide ((k : Int) < (n : Int)) = false := by simp; omega
      go_wp2_with fail
      go_ret
      exact ⟨HTR.out, .inr ⟨fun j hj => HNE.out j (by omega), rfl⟩⟩
theorem has_near (x : El) (X : Nat) (w : World) (v : Value) (l : List El) (hv : RowV w v l) (hb : l.length ≤ 1000) (hx : w.rangeAt X 0 x.vals) : Calls Try.prog 23 #[v, .func (.func 37) #[] #[.pointer (some ⟨X, 0, none⟩)]] w fun e w' => e = .returned (.bool (l.any (q3 x))) ∧ Turn (fun _ => False) w w' := by
  have HV := Lib.hid hv
  have HX := Lib.hid hx
  clear hv hx
  go_enter Try.func23, Try.ntmps23
  go_wp2_with fail
  refine (idx_near x X w v l HV.out hb HX.out).mono ?_
  rintro e w2 ⟨t2, hi⟩
  have T2 := Lib.hid t2
  clear t2
  rcases hi with ⟨k, h1, h2, rfl⟩ | ⟨h1, rfl⟩
  · have HF := Lib.hid (any_at (p := q3 x) h1 h2)
    have d1 : decide ((0 : Int) ≤ (k : Int)) = true := decide_eq_true (by omega)
    clear h1 h2
    go_wp2_with fail
    go_ret
    exact ⟨by rw [HF.out]; rfl, T2.out⟩
  · have HF := Lib.hid (any_none (p := q3 x) h1)
    clear h1
    go_wp2_with fail
    go_ret
    exact ⟨by rw [HF.out]; rfl, T2.out⟩
set_option maxHeartbeats 4000000 in
theorem idx_rival (x : El) (X : Nat) (w : World) (v : Value) (l : List El) (hv : RowV w v l) (hb : l.length ≤ 1000) (hx : w.rangeAt X 0 x.vals) : Calls Try.prog 34 #[v, .func (.func 40) #[] #[.pointer (some ⟨X, 0, none⟩)]] w fun e w' => Turn (fun _ => False) w w' ∧ ((∃ k : Nat, k < l.length ∧ q7 x (l.getD k el0) = true ∧ e = .returned (.int .i64 (k : Int))) ∨ ((∀ j, j < l.length → q7 x (l.getD j el0) = false) ∧ e = .returned (.int .i64 (-1)))) := by
  obtain ⟨la, lc, rfl⟩ := hv.form
  obtain ⟨n, hn⟩ : ∃ n, l.length = n := ⟨_, rfl⟩
  rw [hn] at hv hb
  simp only [hn]
  have HV := Lib.hid hv
  have HX0 := Lib.hid hx
  have HN := Lib.hid hn
  clear hn hv hx
  go_enter Try.func34, Try.ntmps34
  go_wp2_with fail
  go_loopw [8] (fun iv wr => ∃ k : Nat, k ≤ n ∧ iv = .int .i64 (k : Int) ∧ (∀ j, j < k → q7 x (l.getD j el0) = false) ∧ Turn (fun _ => False) w wr) (fun iv _ => n - (intOf iv).toNat)
  case atStart => exact ⟨0, Nat.zero_le _, rfl, fun j hj => by omega, Turn.refl _ _⟩
  case round =>
    obtain ⟨k, hk, rfl, hne, tr⟩ := hrel
    have HNE := Lib.hid hne
    have HTR := Lib.hid tr
    clear hne tr
    by_cases hlt : k < n
    · obtain ⟨b, o, rfl, hc, hs1⟩ := (HV.out.turn HTR.out (fun _ _ => id)).one HN.out k hlt
      have hd1 : decide ((k : Int) < (n : Int)) = true := by simp; omega
      have gi : (0 : Int) ≤ (k : Int) ∧ (k : Int) < (n : Int) := by omega
      generalize hy : l.getD k el0 = y at *
      have HY := Lib.hid hy
      clear hy
      go_wp2_with (with_reducible (show wpList _ _ _ (Oper.mk (some 15) (.load 35 (.tmp 14)) _ _ _ _ :: _) _ _); refine still ?_)
      refine wpList_load_mid rfl 35 (.tmp 14) rfl b (o + k * 10) rfl y.vals _ hs1 Try.underlying35 rfl el_info ?_
      go_wp2_with fail
      refine (rival_any x y X wr (rangeAt_turn HX0.out HTR.out id)).mono ?_
      rintro e w9 ⟨rfl, t9⟩
      have HT9 := Lib.hid (HTR.out.trans t9 (fun _ _ => id))
      clear t9
      cases he : q7 x y
      · have HE := Lib.hid he
        clear he
        go_wp2_with fail
        go_roundw
        case rel => exact ⟨k + 1, by omega, by go_num, fun j hj => by
          by_cases e : j = k
          · subst e; rw [HY.out]; exact HE.out
          · exact HNE.out j (by omega), HT9.out⟩
        case measure => simp [intOf]; omega
      · have HE := Lib.hid he
        clear he
        go_wp2_with fail
        go_ret
        exact ⟨HT9.out, .inl ⟨k, hlt, by rw [HY.out]; exact HE.out, rfl⟩⟩
    · have hke : k = n := by omega
      have hd1 : decide ((k : Int) < (n : Int)) = false := by simp; omega
      go_wp2_with fail
      go_ret
      exact ⟨HTR.out, .inr ⟨fun j hj => HNE.out j (by omega), rfl⟩⟩
theorem has_rival (x : El) (X : Nat) (w : World) (v : Value) (l : List El) (hv : RowV w v l) (hb : l.length ≤ 1000) (hx : w.rangeAt X 0 x.vals) : Calls Try.prog 23 #[v, .func (.func 40) #[] #[.pointer (some ⟨X, 0, none⟩)]] w fun e w' => e = .returned (.bool (l.any (q7 x))) ∧ Turn (fun _ => False) w w' := by
  have HV := Lib.hid hv
  have HX := Lib.hid hx
  clear hv hx
  go_enter Try.func23, Try.ntmps23
  go_wp2_with fail
  refine (idx_rival x X w v l HV.out hb HX.out).mono ?_
  rintro e w2 ⟨t2, hi⟩
  have T2 := Lib.hid t2
  clear t2
  rcases hi with ⟨k, h1, h2, rfl⟩ | ⟨h1, rfl⟩
  · have HF := Lib.hid (any_at (p := q7 x) h1 h2)
    have d1 : decide ((0 : Int) ≤ (k : Int)) = true := decide_eq_true (by omega)
    clear h1 h2
    go_wp2_with fail
    go_ret
    exact ⟨by rw [HF.out]; rfl, T2.out⟩
  · have HF := Lib.hid (any_none (p := q7 x) h1)
    clear h1
    go_wp2_with fail
    go_ret
    exact ⟨by rw [HF.out]; rfl, T2.out⟩

end Go.Proofs.Ytifhnidcodhoeaa
