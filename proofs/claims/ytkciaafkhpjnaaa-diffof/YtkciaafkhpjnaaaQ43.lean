/- Own texts, packed: Or5. No statement is proved here. -/
import Derived.Test.YtkciaafkhpjnaaaQ29
import Derived.Deep.RegionHeld3
namespace Go.Proofs.Ytkciaafkhpjnaaa
set_option maxRecDepth 100000
open Go.RowKit
set_option linter.unusedVariables false
set_option linter.unusedSimpArgs false

theorem exec_neq_ed (ev : Operand → Value) (op : Oper) {a b : Operand} (ho : op.op = .binOp .neq 53 a b 53) (o1 o2 : Ed) (w : World) (h1 : ev a = .agg o1.vals.toArray) (h2 : ev b = .agg o2.vals.toArray) : (execOp ev op).run Try.prog w = .ok (.value (.bool (!decide (o1 = o2)))) w := by
  have hg : (eqGuard .neq 53 a b (.agg o1.vals.toArray) (.agg o2.vals.toArray)).run Try.prog w = .ok () w := by simp [eqGuard]
  unfold execOp
  simp only [ho, h1, h2, Sem.run_bind, run_neq_struct, eqEd, hg, Result.andThen_ok, Sem.run_pure]
set_option maxHeartbeats 4000000 in
theorem esame_any (w : World) (v1 v2 : Value) (l1 l2 : List Ed) (h1 : EdV w v1 l1) (h2 : EdV w v2 l2) (hb : l1.length ≤ 100000 ∧ l2.length ≤ 100000) : Calls Try.prog 17 #[v1, v2] w fun e w' => e = .returned (.bool (decide (l1 = l2))) ∧ Turn (fun _ => False) w w' := by
  obtain ⟨a1, c1, rfl⟩ := h1.form
  obtain ⟨a2, c2, rfl⟩ := h2.form
  obtain ⟨n, hn⟩ : ∃ n, l1.length = n := ⟨_, rfl⟩
  obtain ⟨m, hm⟩ : ∃ m, l2.length = m := ⟨_, rfl⟩
  rw [hn] at h1 hb
  rw [hm] at h2 hb
  rw [hn, hm]
  have H1 := Lib.hid h1
  have H2 := Lib.hid h2
  have HN := Lib.hid hn
  have HM := Lib.hid hm
  clear h1 h2 hn hm
  by_cases hnm : n = m
  · subst hnm
    have hd0 : ((n : Int) != (n : Int)) = false := by simp
    go_enter Try.func17, Try.ntmps17
    go_wp2_with fail
    go_loopw [4, 5] (fun rv iv wr => rv = .bool false ∧ ∃ k : Nat, k ≤ n ∧ iv = .int .i64 (k : Int) ∧ (∀ j, j < k → l1.getD j ed0 = l2.getD j ed0) ∧ Turn (fun _ => False) w wr) (fun _ iv _ => n - (intOf iv).toNat)
    case atStart => exact ⟨rfl, 0, by omega, rfl, fun j hj => by omega, Turn.refl _ _⟩
    case round =>
      obtain ⟨rfl, k, hk, rfl, hall, htr⟩ := hrel
      have HA := Lib.hid hall
      have HTr := Lib.hid htr
      clear hall htr
      by_cases hlt : k < n
      · obtain ⟨g1, o1, e1, hc1, hs1⟩ := (H1.out.turn HTr.out (fun _ _ => id)).one HN.out k hlt
        obtain ⟨g2, o2, e2, hc2, hs2⟩ := (H2.out.turn HTr.out (fun _ _ => id)).one HM.out k hlt
        subst e1 e2
        have hd1 : decide ((k : Int) < (n : Int)) = true := decide_eq_true (by omega)
        have gk : (0 : Int) ≤ (k : Int) ∧ (k : Int) < (n : Int) := by omega
        generalize hxe : l1.getD k ed0 = x at *
        generalize hye : l2.getD k ed0 = y at *
        have HXE := Lib.hid hxe
        have HYE := Lib.hid hye
        clear hxe hye
        go_wp2_with fail
        refine wp_region_held_drew (S := fun wq => wq.rangeAt g1 (o1 + k * 16) x.vals ∧ wq.rangeAt g2 (o2 + k * 16) y.vals) (by kernel_rfl) ⟨hs1, hs2⟩ (fun hHeld => ?_)
        refine wpAnyH_take (i := 0) (v := .slice (some ⟨g1, o1, none⟩) n c1) rfl (by kernel_rfl) (by kernel_rfl) (by kernel_rfl) (fun _ _ _ h => h) (Or.inl ⟨by rfl, ?yq1⟩) (by assumption) ?rq1
        case yq1 => (intro wq hSw; (try simp only [List.getElem_toArray, List.getElem_cons_zero, List.getElem_cons_succ]); go_simp; (try with_reducible rfl); all_goals (try omega))
        case rq1 =>
        try simp only [Act.put, List.setIfInBounds_toArray, List.set_cons_zero, List.set_cons_succ, List.getElem_toArray, List.getElem_cons_zero, List.getElem_cons_succ]
        refine wpAnyH_take (i := 1) (v := .int .i64 (k : Int)) rfl (by kernel_rfl) (by kernel_rfl) (by kernel_rfl) (fun _ _ _ h => h) (Or.inl ⟨by rfl, ?yq2⟩) (by assumption) ?rq2
        case yq2 => (intro wq hSw; (try simp only [List.getElem_toArray, List.getElem_cons_zero, List.getElem_cons_succ]); go_simp; (try with_reducible rfl); all_goals (try omega))
        case rq2 =>
        try simp only [Act.put, List.setIfInBounds_toArray, List.set_cons_zero, List.set_cons_succ, List.getElem_toArray, List.getElem_cons_zero, List.getElem_cons_succ]
        refine wpAnyH_take (i := 2) (v := .pointer (some ⟨g1, o1 + k * 16, none⟩)) rfl (by kernel_rfl) (by kernel_rfl) (by kernel_rfl) (fun _ _ _ h => h) (Or.inl ⟨by rfl, ?yq3⟩) (by assumption) ?rq3
        case yq3 => (intro wq hSw; (try simp only [List.getElem_toArray, List.getElem_cons_zero, List.getElem_cons_succ]); go_simp; (try with_reducible rfl); all_goals (try omega))
        case rq3 =>
        try simp only [Act.put, List.setIfInBounds_toArray, List.set_cons_zero, List.set_cons_succ, List.getElem_toArray, List.getElem_cons_zero, List.getElem_cons_succ]
        refine wpAnyH_take (i := 3) (v := .agg x.vals.toArray) rfl (by kernel_rfl) (by kernel_rfl) (by kernel_rfl) (fun _ _ _ h => h) (Or.inl ⟨by rfl, ?yq4⟩) (by assumption) ?rq4
        case yq4 => (intro wq hSw; exact exec_load_mid _ _ 53 _ rfl g1 (o1 + k * 16) rfl x.vals _ _ hSw.1 Try.underlying53 rfl ed_info)
        case rq4 =>
        try simp only [Act.put, List.setIfInBounds_toArray, List.set_cons_zero, List.set_cons_succ, List.getElem_toArray, List.getElem_cons_zero, List.getElem_cons_succ]
        refine wpAnyH_take (i := 4) (v := .slice (some ⟨g2, o2, none⟩) n c2) rfl (by kernel_rfl) (by kernel_rfl) (by kernel_rfl) (fun _ _ _ h => h) (Or.inl ⟨by rfl, ?yq5⟩) (by assumption) ?rq5
        case yq5 => (intro wq hSw; (try simp only [List.getElem_toArray, List.getElem_cons_zero, List.getElem_cons_succ]); go_simp; (try with_reducible rfl); all_goals (try omega))
        case rq5 =>
        try simp only [Act.put, List.setIfInBounds_toArray, List.set_cons_zero, List.set_cons_succ, List.getElem_toArray, List.getElem_cons_zero, List.getElem_cons_succ]
        refine wpAnyH_take (i := 5) (v := .int .i64 (k : Int)) rfl (by kernel_rfl) (by kernel_rfl) (by kernel_rfl) (fun _ _ _ h => h) (Or.inl ⟨by rfl, ?yq6⟩) (by assumption) ?rq6
        case yq6 => (intro wq hSw; (try simp only [List.getElem_toArray, List.getElem_cons_zero, List.getElem_cons_succ]); go_simp; (try with_reducible rfl); all_goals (try omega))
        case rq6 =>
        try simp only [Act.put, List.setIfInBounds_toArray, List.set_cons_zero, List.set_cons_succ, List.getElem_toArray, List.getElem_cons_zero, List.getElem_cons_succ]
        refine wpAnyH_take (i := 6) (v := .pointer (some ⟨g2, o2 + k * 16, none⟩)) rfl (by kernel_rfl) (by kernel_rfl) (by kernel_rfl) (fun _ _ _ h => h) (Or.inl ⟨by rfl, ?yq7⟩) (by assumption) ?rq7
        case yq7 => (intro wq hSw; (try simp only [List.getElem_toArray, List.getElem_cons_zero, List.getElem_cons_succ]); go_simp; (try with_reducible rfl); all_goals (try omega))
        case rq7 =>
        try simp only [Act.put, List.setIfInBounds_toArray, List.set_cons_zero, List.set_cons_succ, List.getElem_toArray, List.getElem_cons_zero, List.getElem_cons_succ]
        refine wpAnyH_take (i := 7) (v := .agg y.vals.toArray) rfl (by kernel_rfl) (by kernel_rfl) (by kernel_rfl) (fun _ _ _ h => h) (Or.inl ⟨by rfl, ?yq8⟩) (by assumption) ?rq8
        case yq8 => (intro wq hSw; exact exec_load_mid _ _ 53 _ rfl g2 (o2 + k * 16) rfl y.vals _ _ hSw.2 Try.underlying53 rfl ed_info)
        case rq8 =>
        try simp only [Act.put, List.setIfInBounds_toArray, List.set_cons_zero, List.set_cons_succ, List.getElem_toArray, List.getElem_cons_zero, List.getElem_cons_succ]
        refine wpAnyH_take (i := 8) (v := .bool (!decide (x = y))) rfl (by kernel_rfl) (by kernel_rfl) (by kernel_rfl) (fun _ _ _ h => h) (Or.inl ⟨by rfl, ?yq9⟩) (by assumption) ?rq9
        case yq9 => (intro wq hSw; exact exec_neq_ed _ _ rfl _ _ wq rfl rfl)
        case rq9 =>
        try simp only [Act.put, List.setIfInBounds_toArray, List.set_cons_zero, List.set_cons_succ, List.getElem_toArray, List.getElem_cons_zero, List.getElem_cons_succ]
        refine wpAnyH_done (by kernel_rfl) ?_ _
        clear hHeld
        by_cases he : x = y
        · rw [decide_eq_true he]
          have HE := Lib.hid he
          clear he
          go_wp2_with fail
          go_roundw
          case rel => exact ⟨rfl, k + 1, by omega, by go_num, fun j hj => by
            by_cases e : j = k
            · subst e; rw [HXE.out, HYE.out]; exact HE.out
            · exact HA.out j (by omega), HTr.out.trans ((Turn.refl _ wr).drew) (fun _ _ => id)⟩
          case measure => simp [intOf]; omega
        · rw [decide_eq_false he]
          have HE := Lib.hid he
          clear he
          go_wp2_with fail
          go_ret
          refine ⟨?_, HTr.out.trans ((Turn.refl _ wr).drew) (fun _ _ => id)⟩
          rw [decide_eq_false (fun h => HE.out (by rw [← HXE.out, ← HYE.out, h]))]
          rfl
      · have hd1 : decide ((k : Int) < (n : Int)) = false := decide_eq_false (by omega)
        have hke : k = n := by omega
        go_wp2_with fail
        go_ret
        refine ⟨?_, HTr.out⟩
        rw [decide_eq_true (getD_ext_ed (by rw [HN.out, HM.out]) (fun j hj => HA.out j (by rw [hke, ← HN.out]; exact hj)))]
        rfl
  · have hd0 : ((n : Int) != (m : Int)) = true := by simp; omega
    have hne : l1 ≠ l2 := fun h => hnm (by rw [← HN.out, ← HM.out, h])
    have HNE := Lib.hid (decide_eq_false hne)
    clear hne
    go_enter Try.func17, Try.ntmps17
    go_wp2_with fail
    go_ret
    refine ⟨?_, Turn.refl _ _⟩
    rw [HNE.out]
    rfl

end Go.Proofs.Ytkciaafkhpjnaaa
