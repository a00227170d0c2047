/- Own contracts: elements are found, rows held against one another, numbers rise. No statement is proved here. -/
import Derived.Test.YtbokdgcdkmnldaaFd
namespace Go.Proofs.Ytbokdgcdkmnldaa
set_option maxRecDepth 100000
open Go.RowKit
set_option linter.unusedVariables false
set_option linter.unusedSimpArgs false


/-- Where a number stands first. -/
def IdxPost (w : World) (l : List El) (nr : Int) (e : Ending) (w' : World) : Prop :=
  ((∃ k, k < l.length ∧ (l.getD k el0).id = nr ∧ (∀ j, j < k → (l.getD j el0).id ≠ nr) ∧ e = .returned (.int .i64 (k : Int))) ∨ ((∀ j, j < l.length → (l.getD j el0).id ≠ nr) ∧ e = .returned (.int .i64 (-1)))) ∧ w = w'
theorem rfind_any (w : World) (v : Value) (l : List El) (nr : Int) (hv : RowV w v l) (hb : l.length ≤ 1000) : Calls Try.prog 20 #[v, .int .i64 nr] w (IdxPost w l nr) := by
  obtain ⟨la, lc, rfl⟩ := hv.form
  obtain ⟨n, hn⟩ : ∃ n, l.length = n := ⟨_, rfl⟩
  rw [hn] at hv hb
  simp only [hn]
  have HV := Lib.hid hv
  have HN := Lib.hid hn
  clear hv hn
  go_enter Try.func20, Try.ntmps20
  go_wp2_with fail
  go_loop [5] (fun iv => ∃ k : Nat, k ≤ n ∧ iv = .int .i64 (k : Int) ∧ ∀ j, j < k → (l.getD j el0).id ≠ nr) (fun iv => n - (intOf iv).toNat)
  case atStart => exact ⟨0, Nat.zero_le _, rfl, fun j hj => by omega⟩
  case round =>
    obtain ⟨k, hk, rfl, hne⟩ := hrel
    have HNE := Lib.hid hne
    clear hne
    by_cases hlt : k < n
    · obtain ⟨b, o, rfl, hc, hs1⟩ := HV.out.one HN.out k hlt
      have gi : (0 : Int) ≤ (k : Int) ∧ (k : Int) < (n : Int) := by omega
      generalize hx : l.getD k el0 = x at *
      have HX := Lib.hid hx
      have c0 := range0 hs1
      clear hx hs1
      by_cases he : x.id = nr
      · have d1 : (x.id == nr) = true := by simpa using he
        have HE := Lib.hid he
        clear he
        go_wp2_with fail
        go_ret
        exact ⟨.inl ⟨k, by rw [HN.out]; exact hlt, by rw [HX.out]; exact HE.out, HNE.out, rfl⟩, rfl⟩
      · have d1 : (x.id == nr) = false := by simpa using he
        have HE := Lib.hid he
        clear he
        go_wp2_with fail
        go_round
        case rel => exact ⟨k + 1, by omega, by go_num, fun j hj => by
          by_cases e : j = k
          · subst e; rw [HX.out]; exact HE.out
          · exact HNE.out j (by omega)⟩
        case measure => simp [intOf]; omega
    · have hke : k = n := by omega
      subst hke
      go_wp2_with fail
      go_ret
      exact ⟨.inr ⟨fun j hj => HNE.out j (by rw [← HN.out]; exact hj), rfl⟩, rfl⟩

set_option maxHeartbeats 4000000 in
theorem same_any (w : World) (v1 v2 : Value) (l1 l2 : List El) (h1 : RowV w v1 l1) (h2 : RowV w v2 l2) (hb : l1.length ≤ 100000 ∧ l2.length ≤ 100000) : Calls Try.prog 13 #[v1, v2] w fun e w' => e = .returned (.bool (decide (l1 = l2))) ∧ Turn (fun _ => False) w w' := by
  obtain ⟨a1, c1, rfl⟩ := h1.form
  obtain ⟨a2, c2, rfl⟩ := h2.form
  obtain ⟨n, hn⟩ : ∃ n, l1.length = n := ⟨_, rfl⟩
  obtain ⟨m, hm⟩ : ∃ m, l2.length = m := ⟨_, rfl⟩
  rw [hn] at h1 hb
  rw [hm] at h2 hb
  rw [hn, hm]
  have H1 := Lib.hid h1
  have H2 := Lib.hid h2
  have HN := Lib.hid hn
  have HM := Lib.hid hm
  clear h1 h2 hn hm
  by_cases hnm : n = m
  · subst hnm
    have hd0 : ((n : Int) != (n : Int)) = false := by simp
    go_enter Try.func13, Try.ntmps13
    go_wp2_with fail
    go_loopw [4, 5] (fun rv iv wr => rv = .bool false ∧ ∃ k : Nat, k ≤ n ∧ iv = .int .i64 (k : Int) ∧ (∀ j, j < k → l1.getD j el0 = l2.getD j el0) ∧ Turn (fun _ => False) w wr) (fun _ iv _ => n - (intOf iv).toNat)
    case atStart => exact ⟨rfl, 0, by omega, rfl, fun j hj => by omega, Turn.refl _ _⟩
    case round =>
      obtain ⟨rfl, k, hk, rfl, hall, htr⟩ := hrel
      have HA := Lib.hid hall
      have HTr := Lib.hid htr
      clear hall htr
      by_cases hlt : k < n
      · obtain ⟨g1, o1, e1, hc1, hs1⟩ := (H1.out.turn HTr.out (fun _ _ => id)).one HN.out k hlt
        obtain ⟨g2, o2, e2, hc2, hs2⟩ := (H2.out.turn HTr.out (fun _ _ => id)).one HM.out k hlt
        subst e1 e2
        have hd1 : decide ((k : Int) < (n : Int)) = true := decide_eq_true (by omega)
        have gk : (0 : Int) ≤ (k : Int) ∧ (k : Int) < (n : Int) := by omega
        generalize hxe : l1.getD k el0 = x at *
        generalize hye : l2.getD k el0 = y at *
        have HXE := Lib.hid hxe
        have HYE := Lib.hid hye
        clear hxe hye
        go_wp2_with fail
        refine wp_region_held_drew (S := fun wq => wq.rangeAt g1 (o1 + k * 10) x.vals ∧ wq.rangeAt g2 (o2 + k * 10) y.vals) (by kernel_rfl) ⟨hs1, hs2⟩ (fun hHeld => ?_)
        refine wpAnyH_take (i := 0) (v := .slice (some ⟨g1, o1, none⟩) n c1) rfl (by kernel_rfl) (by kernel_rfl) (by kernel_rfl) (fun _ _ _ h => h) (Or.inl ⟨by rfl, ?yq1⟩) (by assumption) ?rq1
        case yq1 => (intro wq hSw; (try simp only [List.getElem_toArray, List.getElem_cons_zero, List.getElem_cons_succ]); go_simp; (try with_reducible rfl); all_goals (try omega))
        case rq1 =>
        try simp only [Act.put, List.setIfInBounds_toArray, List.set_cons_zero, List.set_cons_succ, List.getElem_toArray, List.getElem_cons_zero, List.getElem_cons_succ]
        refine wpAnyH_take (i := 1) (v := .int .i64 (k : Int)) rfl (by kernel_rfl) (by kernel_rfl) (by kernel_rfl) (fun _ _ _ h => h) (Or.inl ⟨by rfl, ?yq2⟩) (by assumption) ?rq2
        case yq2 => (intro wq hSw; (try simp only [List.getElem_toArray, List.getElem_cons_zero, List.getElem_cons_succ]); go_simp; (try with_reducible rfl); all_goals (try omega))
        case rq2 =>
        try simp only [Act.put, List.setIfInBounds_toArray, List.set_cons_zero, List.set_cons_succ, List.getElem_toArray, List.getElem_cons_zero, List.getElem_cons_succ]
        refine wpAnyH_take (i := 2) (v := .pointer (some ⟨g1, o1 + k * 10, none⟩)) rfl (by kernel_rfl) (by kernel_rfl) (by kernel_rfl) (fun _ _ _ h => h) (Or.inl ⟨by rfl, ?yq3⟩) (by assumption) ?rq3
        case yq3 => (intro wq hSw; (try simp only [List.getElem_toArray, List.getElem_cons_zero, List.getElem_cons_succ]); go_simp; (try with_reducible rfl); all_goals (try omega))
        case rq3 =>
        try simp only [Act.put, List.setIfInBounds_toArray, List.set_cons_zero, List.set_cons_succ, List.getElem_toArray, List.getElem_cons_zero, List.getElem_cons_succ]
        refine wpAnyH_take (i := 3) (v := .agg x.vals.toArray) rfl (by kernel_rfl) (by kernel_rfl) (by kernel_rfl) (fun _ _ _ h => h) (Or.inl ⟨by rfl, ?yq4⟩) (by assumption) ?rq4
        case yq4 => (intro wq hSw; exact exec_load_mid _ _ 24 _ rfl g1 (o1 + k * 10) rfl x.vals _ _ hSw.1 Try.underlying24 rfl el_info)
        case rq4 =>
        try simp only [Act.put, List.setIfInBounds_toArray, List.set_cons_zero, List.set_cons_succ, List.getElem_toArray, List.getElem_cons_zero, List.getElem_cons_succ]
        refine wpAnyH_take (i := 4) (v := .slice (some ⟨g2, o2, none⟩) n c2) rfl (by kernel_rfl) (by kernel_rfl) (by kernel_rfl) (fun _ _ _ h => h) (Or.inl ⟨by rfl, ?yq5⟩) (by assumption) ?rq5
        case yq5 => (intro wq hSw; (try simp only [List.getElem_toArray, List.getElem_cons_zero, List.getElem_cons_succ]); go_simp; (try with_reducible rfl); all_goals (try omega))
        case rq5 =>
        try simp only [Act.put, List.setIfInBounds_toArray, List.set_cons_zero, List.set_cons_succ, List.getElem_toArray, List.getElem_cons_zero, List.getElem_cons_succ]
        refine wpAnyH_take (i := 5) (v := .int .i64 (k : Int)) rfl (by kernel_rfl) (by kernel_rfl) (by kernel_rfl) (fun _ _ _ h => h) (Or.inl ⟨by rfl, ?yq6⟩) (by assumption) ?rq6
        case yq6 => (intro wq hSw; (try simp only [List.getElem_toArray, List.getElem_cons_zero, List.getElem_cons_succ]); go_simp; (try with_reducible rfl); all_goals (try omega))
        case rq6 =>
        try simp only [Act.put, List.setIfInBounds_toArray, List.set_cons_zero, List.set_cons_succ, List.getElem_toArray, List.getElem_cons_zero, List.getElem_cons_succ]
        refine wpAnyH_take (i := 6) (v := .pointer (some ⟨g2, o2 + k * 10, none⟩)) rfl (by kernel_rfl) (by kernel_rfl) (by kernel_rfl) (fun _ _ _ h => h) (Or.inl ⟨by rfl, ?yq7⟩) (by assumption) ?rq7
        case yq7 => (intro wq hSw; (try simp only [List.getElem_toArray, List.getElem_cons_zero, List.getElem_cons_succ]); go_simp; (try with_reducible rfl); all_goals (try omega))
        case rq7 =>
        try simp only [Act.put, List.setIfInBounds_toArray, List.set_cons_zero, List.set_cons_succ, List.getElem_toArray, List.getElem_cons_zero, List.getElem_cons_succ]
        refine wpAnyH_take (i := 7) (v := .agg y.vals.toArray) rfl (by kernel_rfl) (by kernel_rfl) (by kernel_rfl) (fun _ _ _ h => h) (Or.inl ⟨by rfl, ?yq8⟩) (by assumption) ?rq8
        case yq8 => (intro wq hSw; exact exec_load_mid _ _ 24 _ rfl g2 (o2 + k * 10) rfl y.vals _ _ hSw.2 Try.underlying24 rfl el_info)
        case rq8 =>
        try simp only [Act.put, List.setIfInBounds_toArray, List.set_cons_zero, List.set_cons_succ, List.getElem_toArray, List.getElem_cons_zero, List.getElem_cons_succ]
        refine wpAnyH_take (i := 8) (v := .bool (!decide (x = y))) rfl (by kernel_rfl) (by kernel_rfl) (by kernel_rfl) (fun _ _ _ h => h) (Or.inl ⟨by rfl, ?yq9⟩) (by assumption) ?rq9
        case yq9 => (intro wq hSw; exact exec_neq_el _ _ rfl _ _ wq rfl rfl)
        case rq9 =>
        try simp only [Act.put, List.setIfInBounds_toArray, List.set_cons_zero, List.set_cons_succ, List.getElem_toArray, List.getElem_cons_zero, List.getElem_cons_succ]
        refine wpAnyH_done (by kernel_rfl) ?_ _
        clear hHeld
        by_cases he : x = y
        · rw [decide_eq_true he]
          have HE := Lib.hid he
          clear he
          go_wp2_with fail
          go_roundw
          case rel => exact ⟨rfl, k + 1, by omega, by go_num, fun j hj => by
            by_cases e : j = k
            · subst e; rw [HXE.out, HYE.out]; exact HE.out
            · exact HA.out j (by omega), HTr.out.trans ((Turn.refl _ wr).drew) (fun _ _ => id)⟩
          case measure => simp [intOf]; omega
        · rw [decide_eq_false he]
          have HE := Lib.hid he
          clear he
          go_wp2_with fail
          go_ret
          refine ⟨?_, HTr.out.trans ((Turn.refl _ wr).drew) (fun _ _ => id)⟩
          rw [decide_eq_false (fun h => HE.out (by rw [← HXE.out, ← HYE.out, h]))]
          rfl
      · have hd1 : decide ((k : Int) < (n : Int)) = false := decide_eq_false (by omega)
        have hke : k = n := by omega
        go_wp2_with fail
        go_ret
        refine ⟨?_, HTr.out⟩
        rw [decide_eq_true (getD_ext (by rw [HN.out, HM.out]) (fun j hj => HA.out j (by rw [hke, ← HN.out]; exact hj)))]
        rfl
  · have hd0 : ((n : Int) != (m : Int)) = true := by simp; omega
    have hne : l1 ≠ l2 := fun h => hnm (by rw [← HN.out, ← HM.out, h])
    have HNE := Lib.hid (decide_eq_false hne)
    clear hne
    go_enter Try.func13, Try.ntmps13
    go_wp2_with fail
    go_ret
    refine ⟨?_, Turn.refl _ _⟩
    rw [HNE.out]
    rfl
/-- Do numbers rise? -/
def risesB (l : List El) : Bool := (List.range (l.length - 1)).all fun i => decide ((l.getD i el0).id < (l.getD (i + 1) el0).id)
theorem risesB_iff (l : List El) : risesB l = true ↔ Rises l := by
  unfold risesB
  rw [List.all_eq_true]
  constructor
  · intro h
    have hs : ∀ j, j < l.length → ∀ i, i < j → (l.getD i el0).id < (l.getD j el0).id := by
      intro j
      induction j with
      | zero => intro _ i hi; omega
      | succ j ih =>
        intro hj i hi
        have h1 := h j (by rw [List.mem_range]; omega)
        have h2 := of_decide_eq_true h1
        by_cases e : i = j
        · subst e; exact h2
        · have := ih (by omega) i (by omega); omega
    unfold Rises
    rw [List.pairwise_iff_getElem]
    intro i j hi hj hij
    have := hs j hj i hij
    simpa [List.getD, hi, hj] using this
  · intro h i hi
    rw [List.mem_range] at hi
    exact decide_eq_true (h.get (by omega) (by omega))

set_option maxHeartbeats 1600000 in
theorem rises_any (w : World) (v : Value) (l : List El) (hv : RowV w v l) (hb : l.length ≤ 1000000000000) : Calls Try.prog 22 #[v] w fun e w' => e = .returned (.bool (risesB l)) ∧ Turn (fun _ => False) w w' := by
  obtain ⟨la, lc, rfl⟩ := hv.form
  obtain ⟨n, hn⟩ : ∃ n, l.length = n := ⟨_, rfl⟩
  rw [hn] at hv hb
  simp only [hn]
  have HV := Lib.hid hv
  have HN := Lib.hid hn
  clear hv hn
  go_enter Try.func22, Try.ntmps22
  go_wp2_with fail
  go_loopw [2, 3] (fun rv iv wr => rv = .bool false ∧ ∃ k : Nat, (k + 1 ≤ n ∨ k = 0) ∧ iv = .int .i64 ((k + 1 : Nat) : Int) ∧ (∀ j, j < k → (l.getD j el0).id < (l.getD (j + 1) el0).id) ∧ Turn (fun _ => False) w wr) (fun _ iv _ => n - (intOf iv).toNat)
  case atStart => exact ⟨rfl, 0, by omega, rfl, fun j hj => by omega, Turn.refl _ _⟩
  case round =>
    obtain ⟨rfl, k, hk, rfl, hall, htr⟩ := hrel
    have HA := Lib.hid hall
    have HTr := Lib.hid htr
    clear hall htr
    by_cases hlt : k + 1 < n
    · obtain ⟨g1, o1, e1, hc1, hs1⟩ := (HV.out.turn HTr.out (fun _ _ => id)).one HN.out k (by omega)
      obtain ⟨g2, o2, e2, hc2, hs2⟩ := (HV.out.turn HTr.out (fun _ _ => id)).one HN.out (k + 1) hlt
      subst e1
      injection e2 with e2
      injection e2 with e2 e3 _
      subst e2 e3
      have hd1 : decide (((k + 1 : Nat) : Int) < (n : Int)) = true := decide_eq_true (by omega)
      have gk : (0 : Int) ≤ (k : Int) ∧ (k : Int) < (n : Int) := by omega
      have gk1 : (0 : Int) ≤ ((k + 1 : Nat) : Int) ∧ ((k + 1 : Nat) : Int) < (n : Int) := by omega
      have hwk : IntKind.i64.wrap (((k + 1 : Nat) : Int) - 1) = (k : Int) := by rw [IntKind.wrap_i64]; omega
      generalize hxe : l.getD k el0 = x at *
      generalize hye : l.getD (k + 1) el0 = y at *
      have HXE := Lib.hid hxe
      have HYE := Lib.hid hye
      have c1 := range0 hs1
      have c2 := range0 hs2
      clear hxe hye hs1 hs2
      generalize hK : k + 1 = K at *
      have HK := Lib.hid hK
      clear hK
      go_wp2_with fail
      refine wp_region_held_drew (S := fun wq => wq.cell? ⟨g1, o1 + k * 10, none⟩ = some (.int .i64 x.id) ∧ wq.cell? ⟨g1, o1 + K * 10, none⟩ = some (.int .i64 y.id)) (by kernel_rfl) ⟨c1, c2⟩ (fun hHeld => ?_)
      refine wpAnyH_take (i := 0) (v := .slice (some ⟨g1, o1, none⟩) n lc) rfl (by kernel_rfl) (by kernel_rfl) (by kernel_rfl) (fun _ _ _ h => h) (Or.inl ⟨by rfl, ?yq10⟩) (by assumption) ?rq10
      case yq10 => (intro wq hSw; (try simp only [List.getElem_toArray, List.getElem_cons_zero, List.getElem_cons_succ]); go_simp; (try with_reducible rfl); all_goals (try omega))
      case rq10 =>
      try simp only [Act.put, List.setIfInBounds_toArray, List.set_cons_zero, List.set_cons_succ, List.getElem_toArray, List.getElem_cons_zero, List.getElem_cons_succ]
      refine wpAnyH_take (i := 1) (v := .int .i64 (K : Int)) rfl (by kernel_rfl) (by kernel_rfl) (by kernel_rfl) (fun _ _ _ h => h) (Or.inl ⟨by rfl, ?yq11⟩) (by assumption) ?rq11
      case yq11 => (intro wq hSw; (try simp only [List.getElem_toArray, List.getElem_cons_zero, List.getElem_cons_succ]); go_simp; (try with_reducible rfl); all_goals (try omega))
      case rq11 =>
      try simp only [Act.put, List.setIfInBounds_toArray, List.set_cons_zero, List.set_cons_succ, List.getElem_toArray, List.getElem_cons_zero, List.getElem_cons_succ]
      refine wpAnyH_take (i := 2) (v := .int .i64 (k : Int)) rfl (by kernel_rfl) (by kernel_rfl) (by kernel_rfl) (fun _ _ _ h => h) (Or.inl ⟨by rfl, ?yq12⟩) (by assumption) ?rq12
      case yq12 => (intro wq hSw; (try simp only [List.getElem_toArray, List.getElem_cons_zero, List.getElem_cons_succ]); go_simp; (try with_reducible rfl); all_goals (try omega))
      case rq12 =>
      try simp only [Act.put, List.setIfInBounds_toArray, List.set_cons_zero, List.set_cons_succ, List.getElem_toArray, List.getElem_cons_zero, List.getElem_cons_succ]
      refine wpAnyH_take (i := 3) (v := .pointer (some ⟨g1, o1 + k * 10, none⟩)) rfl (by kernel_rfl) (by kernel_rfl) (by kernel_rfl) (fun _ _ _ h => h) (Or.inl ⟨by rfl, ?yq13⟩) (by assumption) ?rq13
      case yq13 => (intro wq hSw; (try simp only [List.getElem_toArray, List.getElem_cons_zero, List.getElem_cons_succ]); go_simp; (try with_reducible rfl); all_goals (try omega))
      case rq13 =>
      try simp only [Act.put, List.setIfInBounds_toArray, List.set_cons_zero, List.set_cons_succ, List.getElem_toArray, List.getElem_cons_zero, List.getElem_cons_succ]
      refine wpAnyH_take (i := 4) (v := .pointer (some ⟨g1, o1 + k * 10, none⟩)) rfl (by kernel_rfl) (by kernel_rfl) (by kernel_rfl) (fun _ _ _ h => h) (Or.inl ⟨by rfl, ?yq14⟩) (by assumption) ?rq14
      case yq14 => (intro wq hSw; (try simp only [List.getElem_toArray, List.getElem_cons_zero, List.getElem_cons_succ]); go_simp; (try with_reducible rfl); all_goals (try omega))
      case rq14 =>
      try simp only [Act.put, List.setIfInBounds_toArray, List.set_cons_zero, List.set_cons_succ, List.getElem_toArray, List.getElem_cons_zero, List.getElem_cons_succ]
      refine wpAnyH_take (i := 5) (v := .int .i64 x.id) rfl (by kernel_rfl) (by kernel_rfl) (by kernel_rfl) (fun _ _ _ h => h) (Or.inl ⟨by rfl, ?yq15⟩) (by assumption) ?rq15
      case yq15 => (intro wq hSw; obtain ⟨k1, k2⟩ := hSw; (try simp only [List.getElem_toArray, List.getElem_cons_zero, List.getElem_cons_succ]); go_simp; (try with_reducible rfl); all_goals (try omega))
      case rq15 =>
      try simp only [Act.put, List.setIfInBounds_toArray, List.set_cons_zero, List.set_cons_succ, List.getElem_toArray, List.getElem_cons_zero, List.getElem_cons_succ]
      refine wpAnyH_take (i := 6) (v := .slice (some ⟨g1, o1, none⟩) n lc) rfl (by kernel_rfl) (by kernel_rfl) (by kernel_rfl) (fun _ _ _ h => h) (Or.inl ⟨by rfl, ?yq16⟩) (by assumption) ?rq16
      case yq16 => (intro wq hSw; (try simp only [List.getElem_toArray, List.getElem_cons_zero, List.getElem_cons_succ]); go_simp; (try with_reducible rfl); all_goals (try omega))
      case rq16 =>
      try simp only [Act.put, List.setIfInBounds_toArray, List.set_cons_zero, List.set_cons_succ, List.getElem_toArray, List.getElem_cons_zero, List.getElem_cons_succ]
      refine wpAnyH_take (i := 7) (v := .int .i64 (K : Int)) rfl (by kernel_rfl) (by kernel_rfl) (by kernel_rfl) (fun _ _ _ h => h) (Or.inl ⟨by rfl, ?yq17⟩) (by assumption) ?rq17
      case yq17 => (intro wq hSw; (try simp only [List.getElem_toArray, List.getElem_cons_zero, List.getElem_cons_succ]); go_simp; (try with_reducible rfl); all_goals (try omega))
      case rq17 =>
      try simp only [Act.put, List.setIfInBounds_toArray, List.set_cons_zero, List.set_cons_succ, List.getElem_toArray, List.getElem_cons_zero, List.getElem_cons_succ]
      refine wpAnyH_take (i := 8) (v := .pointer (some ⟨g1, o1 + K * 10, none⟩)) rfl (by kernel_rfl) (by kernel_rfl) (by kernel_rfl) (fun _ _ _ h => h) (Or.inl ⟨by rfl, ?yq18⟩) (by assumption) ?rq18
      case yq18 => (intro wq hSw; (try simp only [List.getElem_toArray, List.getElem_cons_zero, List.getElem_cons_succ]); go_simp; (try with_reducible rfl); all_goals (try omega))
      case rq18 =>
      try simp only [Act.put, List.setIfInBounds_toArray, List.set_cons_zero, List.set_cons_succ, List.getElem_toArray, List.getElem_cons_zero, List.getElem_cons_succ]
      refine wpAnyH_take (i := 9) (v := .pointer (some ⟨g1, o1 + K * 10, none⟩)) rfl (by kernel_rfl) (by kernel_rfl) (by kernel_rfl) (fun _ _ _ h => h) (Or.inl ⟨by rfl, ?yq19⟩) (by assumption) ?rq19
      case yq19 => (intro wq hSw; (try simp only [List.getElem_toArray, List.getElem_cons_zero, List.getElem_cons_succ]); go_simp; (try with_reducible rfl); all_goals (try omega))
      case rq19 =>
      try simp only [Act.put, List.setIfInBounds_toArray, List.set_cons_zero, List.set_cons_succ, List.getElem_toArray, List.getElem_cons_zero, List.getElem_cons_succ]
      refine wpAnyH_take (i := 10) (v := .int .i64 y.id) rfl (by kernel_rfl) (by kernel_rfl) (by kernel_rfl) (fun _ _ _ h => h) (Or.inl ⟨by rfl, ?yq20⟩) (by assumption) ?rq20
      case yq20 => (intro wq hSw; obtain ⟨k1, k2⟩ := hSw; (try simp only [List.getElem_toArray, List.getElem_cons_zero, List.getElem_cons_succ]); go_simp; (try with_reducible rfl); all_goals (try omega))
      case rq20 =>
      try simp only [Act.put, List.setIfInBounds_toArray, List.set_cons_zero, List.set_cons_succ, List.getElem_toArray, List.getElem_cons_zero, List.getElem_cons_succ]
      refine wpAnyH_take (i := 11) (v := .bool (decide (y.id ≤ x.id))) rfl (by kernel_rfl) (by kernel_rfl) (by kernel_rfl) (fun _ _ _ h => h) (Or.inl ⟨by rfl, ?yq21⟩) (by assumption) ?rq21
      case yq21 => (intro wq hSw; (try simp only [List.getElem_toArray, List.getElem_cons_zero, List.getElem_cons_succ]); go_simp; (try with_reducible rfl); all_goals (try omega))
      case rq21 =>
      try simp only [Act.put, List.setIfInBounds_toArray, List.set_cons_zero, List.set_cons_succ, List.getElem_toArray, List.getElem_cons_zero, List.getElem_cons_succ]
      refine wpAnyH_done (by kernel_rfl) ?_ _
      clear hHeld
      by_cases he : x.id < y.id
      · rw [decide_eq_false (show ¬ y.id ≤ x.id by omega)]
        have HE := Lib.hid he
        clear he
        go_wp2_with fail
        go_roundw
        case rel => exact ⟨rfl, K, by omega, by go_num, fun j hj => by
          by_cases e : j = k
          · subst e; rw [HXE.out, HK.out, HYE.out]; exact HE.out
          · exact HA.out j (by have := HK.out; omega), HTr.out.trans ((Turn.refl _ wr).drew) (fun _ _ => id)⟩
        case measure => simp [intOf]; omega
      · rw [decide_eq_true (show y.id ≤ x.id by omega)]
        have HE := Lib.hid he
        clear he
        go_wp2_with fail
        go_ret
        refine ⟨?_, HTr.out.trans ((Turn.refl _ wr).drew) (fun _ _ => id)⟩
        have : risesB l = false := by
          unfold risesB
          rw [List.all_eq_false]
          refine ⟨k, by rw [List.mem_range, HN.out]; have := HK.out; omega, ?_⟩
          rw [HXE.out, HK.out, HYE.out]
          simpa using HE.out
        rw [this]
        rfl
    · have hd1 : decide (((k + 1 : Nat) : Int) < (n : Int)) = false := decide_eq_false (by omega)
      generalize hK : k + 1 = K at *
      have HK := Lib.hid hK
      clear hK
      go_wp2_with fail
      go_ret
      refine ⟨?_, HTr.out⟩
      have : risesB l = true := by
        unfold risesB
        rw [List.all_eq_true]
        intro i hi
        rw [List.mem_range, HN.out] at hi
        exact decide_eq_true (HA.out i (by have := HK.out; omega))
      rw [this]
      rfl

set_option maxHeartbeats 1600000 in
theorem rrises_any (w : World) (v : Value) (l : List El) (hv : RowV w v l) (hb : l.length ≤ 1000000000000) : Calls Try.prog 30 #[v] w fun e w' => e = .returned (.bool (risesB l)) ∧ Turn (fun _ => False) w w' := by
  obtain ⟨la, lc, rfl⟩ := hv.form
  obtain ⟨n, hn⟩ : ∃ n, l.length = n := ⟨_, rfl⟩
  rw [hn] at hv hb
  simp only [hn]
  have HV := Lib.hid hv
  have HN := Lib.hid hn
  clear hv hn
  go_enter Try.func30, Try.ntmps30
  go_wp2_with fail
  go_loopw [2, 3] (fun rv iv wr => rv = .bool false ∧ ∃ k : Nat, (k + 1 ≤ n ∨ k = 0) ∧ iv = .int .i64 ((k + 1 : Nat) : Int) ∧ (∀ j, j < k → (l.getD j el0).id < (l.getD (j + 1) el0).id) ∧ Turn (fun _ => False) w wr) (fun _ iv _ => n - (intOf iv).toNat)
  case atStart => exact ⟨rfl, 0, by omega, rfl, fun j hj => by omega, Turn.refl _ _⟩
  case round =>
    obtain ⟨rfl, k, hk, rfl, hall, htr⟩ := hrel
    have HA := Lib.hid hall
    have HTr := Lib.hid htr
    clear hall htr
    by_cases hlt : k + 1 < n
    · obtain ⟨g1, o1, e1, hc1, hs1⟩ := (HV.out.turn HTr.out (fun _ _ => id)).one HN.out k (by omega)
      obtain ⟨g2, o2, e2, hc2, hs2⟩ := (HV.out.turn HTr.out (fun _ _ => id)).one HN.out (k + 1) hlt
      subst e1
      injection e2 with e2
      injection e2 with e2 e3 _
      subst e2 e3
      have hd1 : decide (((k + 1 : Nat) : Int) < (n : Int)) = true := decide_eq_true (by omega)
      have gk : (0 : Int) ≤ (k : Int) ∧ (k : Int) < (n : Int) := by omega
      have gk1 : (0 : Int) ≤ ((k + 1 : Nat) : Int) ∧ ((k + 1 : Nat) : Int) < (n : Int) := by omega
      have hwk : IntKind.i64.wrap (((k + 1 : Nat) : Int) - 1) = (k : Int) := by rw [IntKind.wrap_i64]; omega
      generalize hxe : l.getD k el0 = x at *
      generalize hye : l.getD (k + 1) el0 = y at *
      have HXE := Lib.hid hxe
      have HYE := Lib.hid hye
      have c1 := range0 hs1
      have c2 := range0 hs2
      clear hxe hye hs1 hs2
      generalize hK : k + 1 = K at *
      have HK := Lib.hid hK
      clear hK
      go_wp2_with fail
      refine wp_region_held_drew (S := fun wq => wq.cell? ⟨g1, o1 + k * 10, none⟩ = some (.int .i64 x.id) ∧ wq.cell? ⟨g1, o1 + K * 10, none⟩ = some (.int .i64 y.id)) (by kernel_rfl) ⟨c1, c2⟩ (fun hHeld => ?_)
      refine wpAnyH_take (i := 0) (v := .slice (some ⟨g1, o1, none⟩) n lc) rfl (by kernel_rfl) (by kernel_rfl) (by kernel_rfl) (fun _ _ _ h => h) (Or.inl ⟨by rfl, ?yq22⟩) (by assumption) ?rq22
      case yq22 => (intro wq hSw; (try simp only [List.getElem_toArray, List.getElem_cons_zero, List.getElem_cons_succ]); go_simp; (try with_reducible rfl); all_goals (try omega))
      case rq22 =>
      try simp only [Act.put, List.setIfInBounds_toArray, List.set_cons_zero, List.set_cons_succ, List.getElem_toArray, List.getElem_cons_zero, List.getElem_cons_succ]
      refine wpAnyH_take (i := 1) (v := .int .i64 (K : Int)) rfl (by kernel_rfl) (by kernel_rfl) (by kernel_rfl) (fun _ _ _ h => h) (Or.inl ⟨by rfl, ?yq23⟩) (by assumption) ?rq23
      case yq23 => (intro wq hSw; (try simp only [List.getElem_toArray, List.getElem_cons_zero, List.getElem_cons_succ]); go_simp; (try with_reducible rfl); all_goals (try omega))
      case rq23 =>
      try simp only [Act.put, List.setIfInBounds_toArray, List.set_cons_zero, List.set_cons_succ, List.getElem_toArray, List.getElem_cons_zero, List.getElem_cons_succ]
      refine wpAnyH_take (i := 2) (v := .int .i64 (k : Int)) rfl (by kernel_rfl) (by kernel_rfl) (by kernel_rfl) (fun _ _ _ h => h) (Or.inl ⟨by rfl, ?yq24⟩) (by assumption) ?rq24
      case yq24 => (intro wq hSw; (try simp only [List.getElem_toArray, List.getElem_cons_zero, List.getElem_cons_succ]); go_simp; (try with_reducible rfl); all_goals (try omega))
      case rq24 =>
      try simp only [Act.put, List.setIfInBounds_toArray, List.set_cons_zero, List.set_cons_succ, List.getElem_toArray, List.getElem_cons_zero, List.getElem_cons_succ]
      refine wpAnyH_take (i := 3) (v := .pointer (some ⟨g1, o1 + k * 10, none⟩)) rfl (by kernel_rfl) (by kernel_rfl) (by kernel_rfl) (fun _ _ _ h => h) (Or.inl ⟨by rfl, ?yq25⟩) (by assumption) ?rq25
      case yq25 => (intro wq hSw; (try simp only [List.getElem_toArray, List.getElem_cons_zero, List.getElem_cons_succ]); go_simp; (try with_reducible rfl); all_goals (try omega))
      case rq25 =>
      try simp only [Act.put, List.setIfInBounds_toArray, List.set_cons_zero, List.set_cons_succ, List.getElem_toArray, List.getElem_cons_zero, List.getElem_cons_succ]
      refine wpAnyH_take (i := 4) (v := .pointer (some ⟨g1, o1 + k * 10, none⟩)) rfl (by kernel_rfl) (by kernel_rfl) (by kernel_rfl) (fun _ _ _ h => h) (Or.inl ⟨by rfl, ?yq26⟩) (by assumption) ?rq26
      case yq26 => (intro wq hSw; (try simp only [List.getElem_toArray, List.getElem_cons_zero, List.getElem_cons_succ]); go_simp; (try with_reducible rfl); all_goals (try omega))
      case rq26 =>
      try simp only [Act.put, List.setIfInBounds_toArray, List.set_cons_zero, List.set_cons_succ, List.getElem_toArray, List.getElem_cons_zero, List.getElem_cons_succ]
      refine wpAnyH_take (i := 5) (v := .int .i64 x.id) rfl (by kernel_rfl) (by kernel_rfl) (by kernel_rfl) (fun _ _ _ h => h) (Or.inl ⟨by rfl, ?yq27⟩) (by assumption) ?rq27
      case yq27 => (intro wq hSw; obtain ⟨k1, k2⟩ := hSw; (try simp only [List.getElem_toArray, List.getElem_cons_zero, List.getElem_cons_succ]); go_simp; (try with_reducible rfl); all_goals (try omega))
      case rq27 =>
      try simp only [Act.put, List.setIfInBounds_toArray, List.set_cons_zero, List.set_cons_succ, List.getElem_toArray, List.getElem_cons_zero, List.getElem_cons_succ]
      refine wpAnyH_take (i := 6) (v := .slice (some ⟨g1, o1, none⟩) n lc) rfl (by kernel_rfl) (by kernel_rfl) (by kernel_rfl) (fun _ _ _ h => h) (Or.inl ⟨by rfl, ?yq28⟩) (by assumption) ?rq28
      case yq28 => (intro wq hSw; (try simp only [List.getElem_toArray, List.getElem_cons_zero, List.getElem_cons_succ]); go_simp; (try with_reducible rfl); all_goals (try omega))
      case rq28 =>
      try simp only [Act.put, List.setIfInBounds_toArray, List.set_cons_zero, List.set_cons_succ, List.getElem_toArray, List.getElem_cons_zero, List.getElem_cons_succ]
      refine wpAnyH_take (i := 7) (v := .int .i64 (K : Int)) rfl (by kernel_rfl) (by kernel_rfl) (by kernel_rfl) (fun _ _ _ h => h) (Or.inl ⟨by rfl, ?yq29⟩) (by assumption) ?rq29
      case yq29 => (intro wq hSw; (try simp only [List.getElem_toArray, List.getElem_cons_zero, List.getElem_cons_succ]); go_simp; (try with_reducible rfl); all_goals (try omega))
      case rq29 =>
      try simp only [Act.put, List.setIfInBounds_toArray, List.set_cons_zero, List.set_cons_succ, List.getElem_toArray, List.getElem_cons_zero, List.getElem_cons_succ]
      refine wpAnyH_take (i := 8) (v := .pointer (some ⟨g1, o1 + K * 10, none⟩)) rfl (by kernel_rfl) (by kernel_rfl) (by kernel_rfl) (fun _ _ _ h => h) (Or.inl ⟨by rfl, ?yq30⟩) (by assumption) ?rq30
      case yq30 => (intro wq hSw; (try simp only [List.getElem_toArray, List.getElem_cons_zero, List.getElem_cons_succ]); go_simp; (try with_reducible rfl); all_goals (try omega))
      case rq30 =>
      try simp only [Act.put, List.setIfInBounds_toArray, List.set_cons_zero, List.set_cons_succ, List.getElem_toArray, List.getElem_cons_zero, List.getElem_cons_succ]
      refine wpAnyH_take (i := 9) (v := .pointer (some ⟨g1, o1 + K * 10, none⟩)) rfl (by kernel_rfl) (by kernel_rfl) (by kernel_rfl) (fun _ _ _ h => h) (Or.inl ⟨by rfl, ?yq31⟩) (by assumption) ?rq31
      case yq31 => (intro wq hSw; (try simp only [List.getElem_toArray, List.getElem_cons_zero, List.getElem_cons_succ]); go_simp; (try with_reducible rfl); all_goals (try omega))
      case rq31 =>
      try simp only [Act.put, List.setIfInBounds_toArray, List.set_cons_zero, List.set_cons_succ, List.getElem_toArray, List.getElem_cons_zero, List.getElem_cons_succ]
      refine wpAnyH_take (i := 10) (v := .int .i64 y.id) rfl (by kernel_rfl) (by kernel_rfl) (by kernel_rfl) (fun _ _ _ h => h) (Or.inl ⟨by rfl, ?yq32⟩) (by assumption) ?rq32
      case yq32 => (intro wq hSw; obtain ⟨k1, k2⟩ := hSw; (try simp only [List.getElem_toArray, List.getElem_cons_zero, List.getElem_cons_succ]); go_simp; (try with_reducible rfl); all_goals (try omega))
      case rq32 =>
      try simp only [Act.put, List.setIfInBounds_toArray, List.set_cons_zero, List.set_cons_succ, List.getElem_toArray, List.getElem_cons_zero, List.getElem_cons_succ]
      refine wpAnyH_take (i := 11) (v := .bool (decide (y.id ≤ x.id))) rfl (by kernel_rfl) (by kernel_rfl) (by kernel_rfl) (fun _ _ _ h => h) (Or.inl ⟨by rfl, ?yq33⟩) (by assumption) ?rq33
      case yq33 => (intro wq hSw; (try simp only [List.getElem_toArray, List.getElem_cons_zero, List.getElem_cons_succ]); go_simp; (try with_reducible rfl); all_goals (try omega))
      case rq33 =>
      try simp only [Act.put, List.setIfInBounds_toArray, List.set_cons_zero, List.set_cons_succ, List.getElem_toArray, List.getElem_cons_zero, List.getElem_cons_succ]
      refine wpAnyH_done (by kernel_rfl) ?_ _
      clear hHeld
      by_cases he : x.id < y.id
      · rw [decide_eq_false (show ¬ y.id ≤ x.id by omega)]
        have HE := Lib.hid he
        clear he
        go_wp2_with fail
        go_roundw
        case rel => exact ⟨rfl, K, by omega, by go_num, fun j hj => by
          by_cases e : j = k
          · subst e; rw [HXE.out, HK.out, HYE.out]; exact HE.out
          · exact HA.out j (by have := HK.out; omega), HTr.out.trans ((Turn.refl _ wr).drew) (fun _ _ => id)⟩
        case measure => simp [intOf]; omega
      · rw [decide_eq_true (show y.id ≤ x.id by omega)]
        have HE := Lib.hid he
        clear he
        go_wp2_with fail
        go_ret
        refine ⟨?_, HTr.out.trans ((Turn.refl _ wr).drew) (fun _ _ => id)⟩
        have : risesB l = false := by
          unfold risesB
          rw [List.all_eq_false]
          refine ⟨k, by rw [List.mem_range, HN.out]; have := HK.out; omega, ?_⟩
          rw [HXE.out, HK.out, HYE.out]
          simpa using HE.out
        rw [this]
        rfl
    · have hd1 : decide (((k + 1 : Nat) : Int) < (n : Int)) = false := decide_eq_false (by omega)
      generalize hK : k + 1 = K at *
      have HK := Lib.hid hK
      clear hK
      go_wp2_with fail
      go_ret
      refine ⟨?_, HTr.out⟩
      have : risesB l = true := by
        unfold risesB
        rw [List.all_eq_true]
        intro i hi
        rw [List.mem_range, HN.out] at hi
        exact decide_eq_true (HA.out i (by have := HK.out; omega))
      rw [this]
      rfl
end Go.Proofs.Ytbokdgcdkmnldaa
