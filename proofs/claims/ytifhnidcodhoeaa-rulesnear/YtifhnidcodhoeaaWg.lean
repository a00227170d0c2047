/- Own contracts: which charts may have bytes. No statement is proved here. -/
import Derived.Test.YtifhnidcodhoeaaFt
namespace Go.Proofs.Ytifhnidcodhoeaa
set_option maxRecDepth 100000
open Go.RowKit
set_option linter.unusedVariables false
set_option linter.unusedSimpArgs false


def nsP (x : El) (k : Nat) : Int := if k = 0 then x.par else if k = 1 then x.ord else if k = 2 then x.frm else x.to
def ssP (x : El) (k : Nat) : ByteArray := if k = 0 then x.name else if k = 1 then x.ev else if k = 2 then x.gd else x.ac
def okN (n : Int) : Bool := decide (0 ≤ n ∧ n ≤ 1048576)
def fineB (x : El) : Bool := decide (1 ≤ x.id ∧ x.id ≤ 1048576) && ((List.range 4).all (fun k => okN (nsP x k)) && (List.range 4).all (fun k => decide ((ssP x k).size ≤ 12)))
theorem fine_id {x : El} (h : ¬ (1 ≤ x.id ∧ x.id ≤ 1048576)) : fineB x = false := by unfold fineB; rw [decide_eq_false h]; rfl
theorem fine_ns {x : El} {k : Nat} (hk : k < 4) (h : okN (nsP x k) = false) : fineB x = false := by
  unfold fineB
  have : ((List.range 4).all fun k => okN (nsP x k)) = false := by
    rw [List.all_eq_false]
    exact ⟨k, by simpa using hk, by rw [h]; simp⟩
  rw [this, Bool.false_and, Bool.and_false]
theorem fine_ss {x : El} {k : Nat} (hk : k < 4) (h : 12 < (ssP x k).size) : fineB x = false := by
  unfold fineB
  have : ((List.range 4).all fun k => decide ((ssP x k).size ≤ 12)) = false := by
    rw [List.all_eq_false]
    exact ⟨k, by simpa using hk, by rw [decide_eq_false (by omega)]; simp⟩
  rw [this, Bool.and_false, Bool.and_false]
theorem fine_all {x : El} (h1 : 1 ≤ x.id ∧ x.id ≤ 1048576) (h2 : ∀ k, k < 4 → okN (nsP x k) = true) (h3 : ∀ k, k < 4 → (ssP x k).size ≤ 12) : fineB x = true := by
  unfold fineB
  rw [decide_eq_true h1, Bool.true_and, Bool.and_eq_true, List.all_eq_true, List.all_eq_true]
  exact ⟨fun k hk => h2 k (by simpa using hk), fun k hk => decide_eq_true (h3 k (by simpa using hk))⟩
theorem build_n4 (a b c d : Int) (w : World) : (Instr.buildSlice 53 4 #[(0, .int .i64 a), (1, .int .i64 b), (2, .int .i64 c), (3, .int .i64 d)]).run Try.prog w = .ok (.slice (some ⟨w.heap.size, 0, none⟩) 4 4) (w.alloc (.cells [Value.int .i64 a, .int .i64 b, .int .i64 c, .int .i64 d].toArray 3)) := by
  obtain ⟨i0, hi, hz0, hz1, hz2⟩ := info_parts info3p
  refine run_buildSlice (P := Try.prog) w 53 3 4 _ _ i0 _ Try.underlying53 hi hz0 (by rw [hz1]; decide) (by rw [hz1]; decide) ?_
  rw [hz1]
  kernel_rfl
theorem build_s4 (a b c d : ByteArray) (w : World) : (Instr.buildSlice 56 4 #[(0, .string a), (1, .string b), (2, .string c), (3, .string d)]).run Try.prog w = .ok (.slice (some ⟨w.heap.size, 0, none⟩) 4 4) (w.alloc (.cells [Value.string a, .string b, .string c, .string d].toArray 9)) := by
  obtain ⟨i0, hi, hz0, hz1, hz2⟩ := info_parts info9p
  refine run_buildSlice (P := Try.prog) w 56 9 4 _ _ i0 _ Try.underlying56 hi hz0 (by rw [hz1]; decide) (by rw [hz1]; decide) ?_
  rw [hz1]
  kernel_rfl
def nsL (x : El) : List Value := [.int .i64 x.par, .int .i64 x.ord, .int .i64 x.frm, .int .i64 x.to]
def ssL (x : El) : List Value := [.string x.name, .string x.ev, .string x.gd, .string x.ac]
theorem nsL_at (x : El) (k : Nat) (hk : k < 4) : (nsL x)[k]? = some (.int .i64 (nsP x k)) := by
  rcases (by omega : k = 0 ∨ k = 1 ∨ k = 2 ∨ k = 3) with rfl | rfl | rfl | rfl <;> rfl
theorem ssL_at (x : El) (k : Nat) (hk : k < 4) : (ssL x)[k]? = some (.string (ssP x k)) := by
  rcases (by omega : k = 0 ∨ k = 1 ∨ k = 2 ∨ k = 3) with rfl | rfl | rfl | rfl <;> rfl
/-- The four numbers, the four texts, as new rows. -/
theorem row_n4 (w : World) (x : El) : ∃ B w', (∀ ev op x0 x1 x2 x3, op.op = .buildSlice 53 4 #[(0, x0), (1, x1), (2, x2), (3, x3)] → ev x0 = .int .i64 x.par → ev x1 = .int .i64 x.ord → ev x2 = .int .i64 x.frm → ev x3 = .int .i64 x.to → (execOp ev op).run Try.prog w = .ok (.value (.slice (some ⟨B, 0, none⟩) 4 4)) w') ∧ (∀ k, k < 4 → w'.cell? ⟨B, k, none⟩ = some (.int .i64 (nsP x k))) ∧ Turn (fun _ => False) w w' := by
  have hb := box_alloc w 3 (nsL x)
  refine ⟨w.heap.size, _, fun ev op x0 x1 x2 x3 ho h0 h1 h2 h3 => ?_, fun k hk => hb.cell k _ (nsL_at x k hk), hb.turn⟩
  unfold execOp
  simp only [ho, List.map_toArray, List.map_cons, List.map_nil, h0, h1, h2, h3, Sem.run_bind, Sem.run_pure, build_n4, Result.andThen_ok, nsL]
theorem row_s4 (w : World) (x : El) : ∃ B w', (∀ ev op x0 x1 x2 x3, op.op = .buildSlice 56 4 #[(0, x0), (1, x1), (2, x2), (3, x3)] → ev x0 = .string x.name → ev x1 = .string x.ev → ev x2 = .string x.gd → ev x3 = .string x.ac → (execOp ev op).run Try.prog w = .ok (.value (.slice (some ⟨B, 0, none⟩) 4 4)) w') ∧ (∀ k, k < 4 → w'.cell? ⟨B, k, none⟩ = some (.string (ssP x k))) ∧ Turn (fun _ => False) w w' := by
  have hb := box_alloc w 9 (ssL x)
  refine ⟨w.heap.size, _, fun ev op x0 x1 x2 x3 ho h0 h1 h2 h3 => ?_, fun k hk => hb.cell k _ (ssL_at x k hk), hb.turn⟩
  unfold execOp
  simp only [ho, List.map_toArray, List.map_cons, List.map_nil, h0, h1, h2, h3, Sem.run_bind, Sem.run_pure, build_s4, Result.andThen_ok, ssL]
def cells10 (w : World) (X : Nat) (x : El) : Prop := w.cell? ⟨X, 0, none⟩ = some (.int .i64 x.id) ∧ w.cell? ⟨X, 2, none⟩ = some (.int .i64 x.par) ∧ w.cell? ⟨X, 3, none⟩ = some (.int .i64 x.ord) ∧ w.cell? ⟨X, 4, none⟩ = some (.string x.name) ∧ w.cell? ⟨X, 5, none⟩ = some (.int .i64 x.frm) ∧ w.cell? ⟨X, 6, none⟩ = some (.int .i64 x.to) ∧ w.cell? ⟨X, 7, none⟩ = some (.string x.ev) ∧ w.cell? ⟨X, 8, none⟩ = some (.string x.gd) ∧ w.cell? ⟨X, 9, none⟩ = some (.string x.ac)
theorem cells10_of {w : World} {X : Nat} {x : El} (h : w.rangeAt X 0 x.vals) : cells10 w X x := by
  refine ⟨?_, ?_, ?_, ?_, ?_, ?_, ?_, ?_, ?_⟩
  · have := h 0 _ rfl; rwa [Nat.zero_add] at this
  · have := h 2 _ rfl; rwa [Nat.zero_add] at this
  · have := h 3 _ rfl; rwa [Nat.zero_add] at this
  · have := h 4 _ rfl; rwa [Nat.zero_add] at this
  · have := h 5 _ rfl; rwa [Nat.zero_add] at this
  · have := h 6 _ rfl; rwa [Nat.zero_add] at this
  · have := h 7 _ rfl; rwa [Nat.zero_add] at this
  · have := h 8 _ rfl; rwa [Nat.zero_add] at this
  · have := h 9 _ rfl; rwa [Nat.zero_add] at this
set_option maxHeartbeats 4000000 in
theorem wrong_any (x : El) (w : World) : Calls Try.prog 24 #[.agg x.vals.toArray] w fun e w' => e = .returned (.bool (!fineB x)) ∧ Turn (fun _ => False) w w' := by
  have hbx := box_alloc w 35 x.vals
  obtain ⟨X, hX⟩ : ∃ X, w.heap.size = X := ⟨_, rfl⟩
  obtain ⟨w1, hw1⟩ : ∃ w1, w.alloc (.cells x.vals.toArray 35) = w1 := ⟨_, rfl⟩
  rw [hw1] at hbx
  have hr := hbx.range
  rw [hX] at hr
  obtain ⟨B, w2, hx2, hc2, t2⟩ := row_n4 w1 x
  obtain ⟨D, w3, hx3, hc3, t3⟩ := row_s4 w2 x
  obtain ⟨c0, c2, c3, c4, c5, c6, c7, c8, c9⟩ := cells10_of hr
  obtain ⟨_, _, _, e4, _, _, e7, e8, e9⟩ := cells10_of (rangeAt_turn hr t2 id)
  have HX2 := Lib.hid hx2
  have HX3 := Lib.hid hx3
  have HC2 := Lib.hid hc2
  have HC3 := Lib.hid hc3
  have T1 := Lib.hid hbx.turn
  have T2 := Lib.hid (hbx.turn.trans t2 (fun _ _ => id))
  have T3 := Lib.hid ((hbx.turn.trans t2 (fun _ _ => id)).trans t3 (fun _ _ => id))
  clear hx2 hx3 hc2 hc3 t2 t3 hbx hr
  by_cases h1 : x.id < 1
  · have HF := Lib.hid (fine_id (x := x) (by omega))
    have d1 : decide (x.id < 1) = true := decide_eq_true h1
    go_enter Try.func24, Try.ntmps24
    go_wp2_with fail
    go_ret
    exact ⟨by rw [HF.out]; rfl, T1.out⟩
  have d1 : decide (x.id < 1) = false := decide_eq_false h1
  by_cases h2 : 1048576 < x.id
  · have HF := Lib.hid (fine_id (x := x) (by omega))
    have d2 : decide (1048576 < x.id) = true := decide_eq_true h2
    go_enter Try.func24, Try.ntmps24
    go_wp2_with fail
    go_ret
    exact ⟨by rw [HF.out]; rfl, T1.out⟩
  have d2 : decide (1048576 < x.id) = false := decide_eq_false h2
  go_enter Try.func24, Try.ntmps24
  go_wp2_with (with_reducible (show wpList _ _ _ (Oper.mk (some 23) _ _ _ _ _ :: _) _ _); refine still ?_)
  refine list_exec rfl _ _ (HX2.out _ _ (.tmp 16) (.tmp 18) (.tmp 20) (.tmp 22) rfl rfl rfl rfl rfl) ?_
  clear hw1 c2 c3 c4 c5 c6 c7 c8 c9
  go_wp2_with fail
  go_loop [25] (fun iv => ∃ k : Nat, k ≤ 4 ∧ iv = .int .i64 (k : Int) ∧ ∀ j, j < k → okN (nsP x j) = true) (fun iv => 4 - (intOf iv).toNat)
  case atStart => exact ⟨0, Nat.zero_le _, rfl, fun j hj => by omega⟩
  case round =>
    obtain ⟨k, hk, rfl, hall⟩ := hrel
    have HA := Lib.hid hall
    clear hall
    by_cases hlt : k < 4
    · have cc := HC2.out k hlt
      have gk : (0 : Int) ≤ (k : Int) ∧ (k : Int) < 4 := by omega
      have dk : decide ((k : Int) < 4) = true := decide_eq_true (by omega)
      obtain ⟨N, hN⟩ : ∃ N, nsP x k = N := ⟨_, rfl⟩
      rw [hN] at cc
      have HN := Lib.hid hN
      clear hN
      by_cases n1 : N < 0
      · have f1 : decide (N < 0) = true := decide_eq_true n1
        have HF := Lib.hid (fine_ns (x := x) hlt (by rw [HN.out]; unfold okN; exact decide_eq_false (by omega)))
        go_wp2_with fail
        go_ret
        exact ⟨by rw [HF.out]; rfl, T2.out⟩
      · have f1 : decide (N < 0) = false := decide_eq_false n1
        by_cases n2 : 1048576 < N
        · have f2 : decide (1048576 < N) = true := decide_eq_true n2
          have HF := Lib.hid (fine_ns (x := x) hlt (by rw [HN.out]; unfold okN; exact decide_eq_false (by omega)))
          go_wp2_with fail
          go_ret
          exact ⟨by rw [HF.out]; rfl, T2.out⟩
        · have f2 : decide (1048576 < N) = false := decide_eq_false n2
          have HG := Lib.hid (show okN N = true from by unfold okN; exact decide_eq_true (by omega))
          go_wp2_with fail
          go_round
          case rel => exact ⟨k + 1, by omega, by go_num, fun j hj => by
            by_cases e : j = k
            · subst e; rw [HN.out]; exact HG.out
            · exact HA.out j (by omega)⟩
          case measure => simp [intOf]; omega
    · have hke : k = 4 := by omega
      subst hke
      have dk : decide (((4 : Nat) : Int) < 4) = false := by decide
      go_wp2_with (with_reducible (show wpList _ _ _ (Oper.mk (some 44) _ _ _ _ _ :: _) _ _); refine still ?_)
      refine list_exec rfl _ _ (HX3.out _ _ (.tmp 37) (.tmp 39) (.tmp 41) (.tmp 43) rfl rfl rfl rfl rfl) ?_
      clear e4 e7 e8 e9
      go_wp2_with fail
      go_loop [46] (fun iv => ∃ k : Nat, k ≤ 4 ∧ iv = .int .i64 (k : Int) ∧ ∀ j, j < k → (ssP x j).size ≤ 12) (fun iv => 4 - (intOf iv).toNat)
      case atStart => exact ⟨0, Nat.zero_le _, rfl, fun j hj => by omega⟩
      case round =>
        obtain ⟨k, hk, rfl, hall⟩ := hrel
        have HA2 := Lib.hid hall
        clear hall
        by_cases hlt : k < 4
        · have cc := HC3.out k hlt
          have gk : (0 : Int) ≤ (k : Int) ∧ (k : Int) < 4 := by omega
          have dk2 : decide ((k : Int) < 4) = true := decide_eq_true (by omega)
          obtain ⟨S, hS⟩ : ∃ S, ssP x k = S := ⟨_, rfl⟩
          rw [hS] at cc
          have HS := Lib.hid hS
          clear hS
          by_cases n1 : 12 < S.size
          · have f1 : decide ((12 : Int) < (S.size : Int)) = true := decide_eq_true (by omega)
            have f2 : decide (12 < S.size) = true := decide_eq_true n1
            have HF := Lib.hid (fine_ss (x := x) hlt (by rw [HS.out]; exact n1))
            go_wp2_with fail
            go_ret
            exact ⟨by rw [HF.out]; rfl, T3.out⟩
          · have f1 : decide ((12 : Int) < (S.size : Int)) = false := decide_eq_false (by omega)
            have f2 : decide (12 < S.size) = false := decide_eq_false n1
            go_wp2_with fail
            go_round
            case rel => exact ⟨k + 1, by omega, by go_num, fun j hj => by
              by_cases e : j = k
              · subst e; rw [HS.out]; omega
              · exact HA2.out j (by omega)⟩
            case measure => simp [intOf]; omega
        · have hke : k = 4 := by omega
          subst hke
          have HF := Lib.hid (fine_all (x := x) (by omega) HA.out HA2.out)
          go_wp2_with fail
          go_ret
          exact ⟨by rw [HF.out]; rfl, T3.out⟩
def IfPost (w : World) (l : List El) (e : Ending) (w' : World) : Prop :=
  Turn (fun _ => False) w w' ∧ ((∃ k, k < l.length ∧ fineB (l.getD k el0) = false ∧ e = .returned (.int .i64 (k : Int))) ∨ ((∀ j, j < l.length → fineB (l.getD j el0) = true) ∧ e = .returned (.int .i64 (-1))))
set_option maxHeartbeats 1600000 in
theorem idxf_any (w : World) (v : Value) (l : List El) (hv : RowV w v l) (hb : l.length ≤ 1000) : Calls Try.prog 34 #[v, .func (.func 24) #[] #[]] w (IfPost w l) := by
  obtain ⟨la, lc, rfl⟩ := hv.form
  obtain ⟨n, hn⟩ : ∃ n, l.length = n := ⟨_, rfl⟩
  rw [hn] at hv hb
  simp only [hn]
  have HV := Lib.hid hv
  have HN := Lib.hid hn
  clear hv hn
  go_enter Try.func34, Try.ntmps34
  go_wp2_with fail
  go_loopw [8] (fun iv wr => ∃ k : Nat, k ≤ n ∧ iv = .int .i64 (k : Int) ∧ (∀ j, j < k → fineB (l.getD j el0) = true) ∧ Turn (fun _ => False) w wr) (fun iv _ => n - (intOf iv).toNat)
  case atStart => exact ⟨0, Nat.zero_le _, rfl, fun j hj => by omega, Turn.refl _ _⟩
  case round =>
    obtain ⟨k, hk, rfl, hne, tr⟩ := hrel
    have HNE := Lib.hid hne
    have HTR := Lib.hid tr
    clear hne tr
    by_cases hlt : k < n
    · obtain ⟨b, o, rfl, hc, hs1⟩ := (HV.out.turn HTR.out (fun _ _ => id)).one HN.out k hlt
      have hd1 : decide ((k : Int) < (n : Int)) = true := by simp; omega
      have gi : (0 : Int) ≤ (k : Int) ∧ (k : Int) < (n : Int) := by omega
      generalize hx : l.getD k el0 = x at *
      have HX := Lib.hid hx
      clear hx
      go_wp2_with (with_reducible (show wpList _ _ _ (Oper.mk (some 15) (.load 35 (.tmp 14)) _ _ _ _ :: _) _ _); refine still ?_)
      refine wpList_load_mid rfl 35 (.tmp 14) rfl b (o + k * 10) rfl x.vals _ hs1 Try.underlying35 rfl el_info ?_
      go_wp2_with fail
      refine (wrong_any x wr).mono ?_
      rintro e w9 ⟨rfl, t9⟩
      have HT9 := Lib.hid (HTR.out.trans t9 (fun _ _ => id))
      clear t9
      cases he : fineB x
      · have HE := Lib.hid he
        clear he
        go_wp2_with fail
        go_ret
        exact ⟨HT9.out, .inl ⟨k, by rw [HN.out]; exact hlt, by rw [HX.out]; exact HE.out, rfl⟩⟩
      · have HE := Lib.hid he
        clear he
        go_wp2_with fail
        go_roundw
        case rel => exact ⟨k + 1, by omega, by go_num, fun j hj => by
          by_cases e : j = k
          · subst e; rw [HX.out]; exact HE.out
          · exact HNE.out j (by omega), HT9.out⟩
        case measure => simp [intOf]; omega
    · have hke : k = n := by omega
      have hd1 : decide ((k : Int) < (n : Int)) = false := by simp; omega
      go_wp2_with fail
      go_ret
      exact ⟨HTR.out, .inr ⟨fun j hj => HNE.out j (by rw [hke, ← HN.out]; exact hj), rfl⟩⟩
def allFine (l : List El) : Bool := l.all fineB
theorem allFine_no {l : List El} {k : Nat} (hk : k < l.length) (h : fineB (l.getD k el0) = false) : allFine l = false := by
  unfold allFine
  rw [List.all_eq_false]
  exact ⟨_, getD_mem hk, by rw [h]; simp⟩
theorem allFine_yes {l : List El} (h : ∀ j, j < l.length → fineB (l.getD j el0) = true) : allFine l = true := by
  unfold allFine
  rw [List.all_eq_true]
  intro x hx
  obtain ⟨k, hk, rfl⟩ := mem_at hx
  exact h k hk
theorem contains_any (w : World) (v : Value) (l : List El) (hv : RowV w v l) (hb : l.length ≤ 1000) : Calls Try.prog 23 #[v, .func (.func 24) #[] #[]] w fun e w' => e = .returned (.bool (!allFine l)) ∧ Turn (fun _ => False) w w' := by
  have HV := Lib.hid hv
  clear hv
  go_enter Try.func23, Try.ntmps23
  go_wp2_with fail
  refine (idxf_any w v l HV.out hb).mono ?_
  rintro e w2 ⟨t2, hi⟩
  have T2 := Lib.hid t2
  clear t2
  rcases hi with ⟨k, h1, h2, rfl⟩ | ⟨h1, rfl⟩
  · have HF := Lib.hid (allFine_no h1 h2)
    have d1 : decide ((0 : Int) ≤ (k : Int)) = true := decide_eq_true (by omega)
    clear h1 h2
    go_wp2_with fail
    go_ret
    exact ⟨by rw [HF.out]; rfl, T2.out⟩
  · have HF := Lib.hid (allFine_yes h1)
    clear h1
    go_wp2_with fail
    go_ret
    exact ⟨by rw [HF.out]; rfl, T2.out⟩
def rightE (l : List El) : Bool := decide (l.length ≤ 40) && (risesB l && allFine l)
set_option maxHeartbeats 1600000 in
theorem right_any (w : World) (v : Value) (l : List El) (hv : RowV w v l) (hb : l.length ≤ 9223372036854775807) : Calls Try.prog 15 #[v] w fun e w' => e = .returned (.bool (rightE l)) ∧ Turn (fun _ => False) w w' := by
  obtain ⟨la, lc, rfl⟩ := hv.form
  obtain ⟨n, hn⟩ : ∃ n, l.length = n := ⟨_, rfl⟩
  rw [hn] at hv hb
  simp only [hn]
  have HV := Lib.hid hv
  have HN := Lib.hid hn
  have HRE := Lib.hid (show rightE l = (decide (n ≤ 40) && (risesB l && allFine l)) from by unfold rightE; rw [hn])
  clear hv hn
  by_cases h1 : n ≤ 40
  · have d1 : decide ((n : Int) ≤ 40) = true := decide_eq_true (by omega)
    have d2 : decide (n ≤ 40) = true := decide_eq_true h1
    go_enter Try.func15, Try.ntmps15
    go_wp2_with fail
    refine (rises_any w _ l HV.out (by rw [HN.out]; omega)).mono ?_
    rintro e w2 ⟨rfl, t2⟩
    have T2 := Lib.hid t2
    clear t2
    cases hr : risesB l
    · have HR := Lib.hid hr
      clear hr
      go_wp2_with fail
      go_ret
      exact ⟨by rw [HRE.out, HR.out, d2]; rfl, T2.out⟩
    · have HR := Lib.hid hr
      clear hr
      go_wp2_with fail
      refine (contains_any w2 _ l (HV.out.turn T2.out (fun _ _ => id)) (by rw [HN.out]; omega)).mono ?_
      rintro e w3 ⟨rfl, t3⟩
      have T3 := Lib.hid (T2.out.trans t3 (fun _ _ => id))
      clear t3
      cases ha : allFine l
      · have HA := Lib.hid ha
        clear ha
        go_wp2_with fail
        go_ret
        exact ⟨by rw [HRE.out, HR.out, HA.out, d2]; rfl, T3.out⟩
      · have HA := Lib.hid ha
        clear ha
        go_wp2_with fail
        go_ret
        exact ⟨by rw [HRE.out, HR.out, HA.out, d2]; rfl, T3.out⟩
  · have d1 : decide ((n : Int) ≤ 40) = false := decide_eq_false (by omega)
    have d2 : decide (n ≤ 40) = false := decide_eq_false h1
    go_enter Try.func15, Try.ntmps15
    go_wp2_with fail
    go_ret
    exact ⟨by rw [HRE.out, d2]; rfl, Turn.refl _ _⟩
end Go.Proofs.Ytifhnidcodhoeaa
