/- Own contracts: the document puts an element. No statement is proved here. -/
import Derived.Test.YtbokdgcdkmnldaaRd
namespace Go.Proofs.Ytbokdgcdkmnldaa
set_option maxRecDepth 100000
open Go.RowKit
set_option linter.unusedVariables false
set_option linter.unusedSimpArgs false


theorem Turn.cells_at {w w' : World} (t : Turn (fun _ => False) w w') {p : Addr} {v : Value} (h : w.cell? p = some v) : w'.cell? p = some v := (t.cell (World.block_lt_of_cell? w _ h) id).trans h
def doneB (l : List El) (e : El) : Bool := l.any fun x => decide (e.id ≤ x.id)
/-- What is laid of a chart, with an element in its place. -/
def outP (l : List El) (e : El) : List El := l.filter (fun x => decide (x.id < e.id)) ++ (if doneB l e = true then [e] else []) ++ l.filter (fun x => decide (e.id < x.id))
theorem doneB_false {l : List El} {e : El} (h : doneB l e = false) : ∀ x ∈ l, x.id < e.id := fun x hx => by
  have := (List.any_eq_false.1 h) x hx
  simp only [decide_eq_true_eq] at this
  omega
theorem filter_none {l : List El} {p : El → Bool} (h : ∀ x ∈ l, p x = false) : l.filter p = [] := by
  rw [List.filter_eq_nil_iff]
  intro x hx
  simp [h x hx]
theorem outP_low {l : List El} {e : El} (h : ∀ x ∈ l, x.id < e.id) : doneB l e = false ∧ outP l e = l := by
  have h1 : doneB l e = false := by
    unfold doneB
    rw [List.any_eq_false]
    intro x hx
    have := h x hx
    simp only [decide_eq_true_eq]; omega
  refine ⟨h1, ?_⟩
  unfold outP
  rw [h1, filter_none (p := fun x => decide (e.id < x.id)) (fun x hx => by have := h x hx; simp only [decide_eq_false_iff_not]; omega), List.filter_eq_self.2 (fun x hx => by simpa using h x hx)]
  simp
theorem below_at {l : List El} (hr : Rises l) {k : Nat} (hk : k < l.length) : ∀ x ∈ l.take k, x.id < (l.getD k el0).id := fun x hx => by
  obtain ⟨j, h1, h2, rfl⟩ := mem_take_at hx
  exact hr.get h1 hk
theorem outP_D {l : List El} (hr : Rises l) {k : Nat} (hk : k < l.length) {e : El} (h : (l.getD k el0).id < e.id) : doneB (l.take k) e = false ∧ doneB (l.take (k + 1)) e = false ∧ outP (l.take (k + 1)) e = outP (l.take k) e ++ [l.getD k el0] := by
  have h1 := below_at hr hk
  have h2 : ∀ x ∈ l.take (k + 1), x.id < e.id := by
    rw [take_snoc l k hk]
    intro x hx
    rcases List.mem_append.1 hx with hx | hx
    · have := h1 x hx; omega
    · rw [List.mem_singleton.1 hx]; exact h
  have h3 := outP_low (fun x hx => (show x.id < e.id by have := h1 x hx; omega) : ∀ x ∈ l.take k, x.id < e.id)
  have h4 := outP_low h2
  exact ⟨h3.1, h4.1, by rw [h4.2, h3.2, take_snoc l k hk]⟩
theorem outP_B {l : List El} (hr : Rises l) {k : Nat} (hk : k < l.length) {e : El} (h : (l.getD k el0).id = e.id) : doneB (l.take k) e = false ∧ doneB (l.take (k + 1)) e = true ∧ outP (l.take (k + 1)) e = outP (l.take k) e ++ [e] := by
  have h1 := below_at hr hk
  have h2 : ∀ x ∈ l.take k, x.id < e.id := fun x hx => by have := h1 x hx; omega
  have h3 := outP_low h2
  have h4 : doneB (l.take (k + 1)) e = true := by
    unfold doneB
    rw [take_snoc l k hk, List.any_append]
    simp only [List.any_cons, List.any_nil, Bool.or_false]
    rw [decide_eq_true (show e.id ≤ (l.getD k el0).id by omega), Bool.or_true]
  refine ⟨h3.1, h4, ?_⟩
  rw [h3.2]
  have f1 : ([l.getD k el0] : List El).filter (fun x => decide (x.id < e.id)) = [] := filter_none (fun x hx => by rw [List.mem_singleton.1 hx]; simp only [decide_eq_false_iff_not]; omega)
  have f2 : ([l.getD k el0] : List El).filter (fun x => decide (e.id < x.id)) = [] := filter_none (fun x hx => by rw [List.mem_singleton.1 hx]; simp only [decide_eq_false_iff_not]; omega)
  unfold outP
  rw [h4, take_snoc l k hk, List.filter_append, List.filter_append, List.filter_eq_self.2 (fun x hx => by simpa using h2 x hx), filter_none (p := fun x => decide (e.id < x.id)) (fun x hx => by have := h2 x hx; simp only [decide_eq_false_iff_not]; omega), f1, f2]
  simp
theorem outP_C {l : List El} {k : Nat} (hk : k < l.length) {e : El} (h : e.id < (l.getD k el0).id) : doneB (l.take (k + 1)) e = true ∧ outP (l.take (k + 1)) e = (if doneB (l.take k) e = true then outP (l.take k) e else outP (l.take k) e ++ [e]) ++ [l.getD k el0] := by
  have h4 : doneB (l.take (k + 1)) e = true := by
    unfold doneB
    rw [take_snoc l k hk, List.any_append]
    simp only [List.any_cons, List.any_nil, Bool.or_false]
    rw [decide_eq_true (show e.id ≤ (l.getD k el0).id by omega), Bool.or_true]
  refine ⟨h4, ?_⟩
  have f1 : ([l.getD k el0] : List El).filter (fun x => decide (x.id < e.id)) = [] := filter_none (fun x hx => by rw [List.mem_singleton.1 hx]; simp only [decide_eq_false_iff_not]; omega)
  have f2 : ([l.getD k el0] : List El).filter (fun x => decide (e.id < x.id)) = [l.getD k el0] := List.filter_eq_self.2 (fun x hx => by rw [List.mem_singleton.1 hx]; simpa using h)
  cases hd : doneB (l.take k) e
  · rw [if_neg (by simp)]
    have h2 := doneB_false hd
    rw [(outP_low h2).2]
    unfold outP
    rw [h4, take_snoc l k hk, List.filter_append, List.filter_append, f1, f2, List.filter_eq_self.2 (fun x hx => by simpa using h2 x hx), filter_none (p := fun x => decide (e.id < x.id)) (fun x hx => by have := h2 x hx; simp only [decide_eq_false_iff_not]; omega)]
    simp
  · rw [if_pos rfl]
    unfold outP
    rw [h4, hd, take_snoc l k hk, List.filter_append, List.filter_append, f1, f2]
    simp
theorem done_above {l : List El} (hr : Rises l) {k : Nat} (hk : k < l.length) {e : El} (h : doneB (l.take k) e = true) : e.id < (l.getD k el0).id := by
  unfold doneB at h
  rw [List.any_eq_true] at h
  obtain ⟨x, hx, hd⟩ := h
  have := below_at hr hk x hx
  have := of_decide_eq_true hd
  omega
theorem outP_end {l : List El} {e : El} : putE l e = if doneB l e = true then outP l e else outP l e ++ [e] := by
  cases hd : doneB l e
  · rw [if_neg (by simp)]
    have h2 := doneB_false hd
    rw [(outP_low h2).2]
    unfold putE
    rw [List.filter_eq_self.2 (fun x hx => by simpa using h2 x hx), filter_none (p := fun x => decide (e.id < x.id)) (fun x hx => by have := h2 x hx; simp only [decide_eq_false_iff_not]; omega)]
  · rw [if_pos rfl]
    unfold putE outP
    rw [hd]
    simp
theorem outP_len (l : List El) (e : El) : (outP l e).length ≤ 2 * l.length + 1 := by
  unfold outP
  have h1 := List.length_filter_le (fun x : El => decide (x.id < e.id)) l
  have h2 := List.length_filter_le (fun x : El => decide (e.id < x.id)) l
  simp only [List.length_append]
  split <;> simp <;> omega

set_option maxHeartbeats 4000000 in
theorem rput_any (w : World) (v : Value) (l : List El) (e : El) (hv : RowV w v l) (hr : Rises l) (hb : l.length ≤ 1000) : Calls Try.prog 19 #[v, .agg e.vals.toArray] w (NewEls w (putE l e)) := by
  obtain ⟨la, lc, rfl⟩ := hv.form
  obtain ⟨n, hn⟩ : ∃ n, l.length = n := ⟨_, rfl⟩
  rw [hn] at hv hb
  simp only [hn]
  have hbx := box_alloc w 24 e.vals
  obtain ⟨w1, hw1⟩ : ∃ w1, w.alloc (.cells e.vals.toArray 24) = w1 := ⟨_, rfl⟩
  rw [hw1] at hbx
  have HB := Lib.hid hbx
  have HV := Lib.hid (hv.turn hbx.turn (fun _ _ => id))
  have HN := Lib.hid hn
  have HR := Lib.hid hr
  have HE0 := Lib.hid (hbx.cell 0 _ e.v0)
  clear hbx hv hn hr
  obtain ⟨X, hX⟩ : ∃ X, w.heap.size = X := ⟨_, rfl⟩
  rw [hX] at HE0
  have HRX : Hid (w1.rangeAt X 0 e.vals) := hX ▸ HB.out.range
  have HXX := Lib.hid hX
  go_enter Try.func19, Try.ntmps19
  go_wp2_with fail
  try rw [hw1]
  try rw [hX]
  clear hw1 hX
  go_loopw [5, 6, 7] (fun sv dv iv wr => ∃ k : Nat, k ≤ n ∧ iv = .int .i64 (k : Int) ∧ dv = .bool (doneB (l.take k) e) ∧ wr.ownsRow w1.heap.size 24 10 sv (outP (l.take k) e).length (elsV (outP (l.take k) e)) ∧ Turn (fun _ => False) w1 wr) (fun _ _ iv _ => n - (intOf iv).toNat)
  case atStart => exact ⟨0, Nat.zero_le _, rfl, rfl, World.ownsRow_nil _ _ _ _, Turn.refl _ _⟩
  case round =>
    obtain ⟨k, hk, rfl, rfl, ho, htr⟩ := hrel
    have HO := Lib.hid ho
    have HT := Lib.hid htr
    clear ho htr
    by_cases hlt : k < n
    · have hkl : k < l.length := by rw [HN.out]; exact hlt
      have HD := fun h => outP_D HR.out hkl (e := e) h
      have HBB := fun h => outP_B HR.out hkl (e := e) h
      have HC := fun h => outP_C hkl (e := e) h
      have HA := fun h => done_above HR.out hkl (e := e) h
      have hD := Lib.hid HD
      have hBB := Lib.hid HBB
      have hC := Lib.hid HC
      have hA := Lib.hid HA
      clear HD HBB HC HA hkl
      obtain ⟨g, o, hla, hc, hs1⟩ := (HV.out.turn HT.out (fun _ _ => id)).one HN.out k hlt
      subst hla
      have gi : (0 : Int) ≤ (k : Int) ∧ (k : Int) < (n : Int) := by omega
      generalize hx : l.getD k el0 = x at *
      have HX := Lib.hid hx
      have c1 := range0 hs1
      have c2 := HT.out.cells_at HE0.out
      have HS1 := Lib.hid hs1
      clear hx hs1
      go_wp2_with fail
      cases hdn : doneB (l.take k) e
      · have HDN := Lib.hid hdn
        clear hdn
        refine wp_region_held_drew (S := fun wq => wq.cell? ⟨g, o + k * 10, none⟩ = some (.int .i64 x.id) ∧ wq.cell? ⟨X, 0, none⟩ = some (.int .i64 e.id)) (by kernel_rfl) ⟨c1, c2⟩ (fun hHeld => ?_)
        refine wpAnyH_take (i := 0) (v := .bool false) rfl (by kernel_rfl) (by kernel_rfl) (by kernel_rfl) (fun _ _ _ h => h) (Or.inl ⟨by rfl, ?yq1⟩) (by assumption) ?rq1
        case yq1 => (intro wq hSw; (try simp only [List.getElem_toArray, List.getElem_cons_zero, List.getElem_cons_succ]); go_simp; (try with_reducible rfl); all_goals (try omega))
        case rq1 =>
        try simp only [Act.put, List.setIfInBounds_toArray, List.set_cons_zero, List.set_cons_succ, List.getElem_toArray, List.getElem_cons_zero, List.getElem_cons_succ]
        refine wpAnyH_take (i := 1) (v := .bool true) rfl (by kernel_rfl) (by kernel_rfl) (by kernel_rfl) (fun _ _ _ h => h) (Or.inl ⟨by rfl, ?yq2⟩) (by assumption) ?rq2
        case yq2 => (intro wq hSw; (try simp only [List.getElem_toArray, List.getElem_cons_zero, List.getElem_cons_succ]); go_simp; (try with_reducible rfl); all_goals (try omega))
        case rq2 =>
        try simp only [Act.put, List.setIfInBounds_toArray, List.set_cons_zero, List.set_cons_succ, List.getElem_toArray, List.getElem_cons_zero, List.getElem_cons_succ]
        refine wpAnyH_take (i := 2) (v := .bool true) rfl (by kernel_rfl) (by kernel_rfl) (by kernel_rfl) (fun _ _ _ h => h) (Or.inl ⟨by rfl, ?yq3⟩) (by assumption) ?rq3
        case yq3 => (intro wq hSw; (try simp only [List.getElem_toArray, List.getElem_cons_zero, List.getElem_cons_succ]); go_simp; (try with_reducible rfl); all_goals (try omega))
        case rq3 =>
        try simp only [Act.put, List.setIfInBounds_toArray, List.set_cons_zero, List.set_cons_succ, List.getElem_toArray, List.getElem_cons_zero, List.getElem_cons_succ]
        refine wpAnyH_take (i := 3) (v := .slice (some ⟨g, o, none⟩) n lc) rfl (by kernel_rfl) (by kernel_rfl) (by kernel_rfl) (fun _ _ _ h => h) (Or.inl ⟨by rfl, ?yq4⟩) (by assumption) ?rq4
        case yq4 => (intro wq hSw; (try simp only [List.getElem_toArray, List.getElem_cons_zero, List.getElem_cons_succ]); go_simp; (try with_reducible rfl); all_goals (try omega))
        case rq4 =>
        try simp only [Act.put, List.setIfInBounds_toArray, List.set_cons_zero, List.set_cons_succ, List.getElem_toArray, List.getElem_cons_zero, List.getElem_cons_succ]
        refine wpAnyH_take (i := 4) (v := .int .i64 (k : Int)) rfl (by kernel_rfl) (by kernel_rfl) (by kernel_rfl) (fun _ _ _ h => h) (Or.inl ⟨by rfl, ?yq5⟩) (by assumption) ?rq5
        case yq5 => (intro wq hSw; (try simp only [List.getElem_toArray, List.getElem_cons_zero, List.getElem_cons_succ]); go_simp; (try with_reducible rfl); all_goals (try omega))
        case rq5 =>
        try simp only [Act.put, List.setIfInBounds_toArray, List.set_cons_zero, List.set_cons_succ, List.getElem_toArray, List.getElem_cons_zero, List.getElem_cons_succ]
        refine wpAnyH_take (i := 5) (v := .pointer (some ⟨g, o + k * 10, none⟩)) rfl (by kernel_rfl) (by kernel_rfl) (by kernel_rfl) (fun _ _ _ h => h) (Or.inl ⟨by rfl, ?yq6⟩) (by assumption) ?rq6
        case yq6 => (intro wq hSw; (try simp only [List.getElem_toArray, List.getElem_cons_zero, List.getElem_cons_succ]); go_simp; (try with_reducible rfl); all_goals (try omega))
        case rq6 =>
        try simp only [Act.put, List.setIfInBounds_toArray, List.set_cons_zero, List.set_cons_succ, List.getElem_toArray, List.getElem_cons_zero, List.getElem_cons_succ]
        refine wpAnyH_take (i := 6) (v := .pointer (some ⟨g, o + k * 10, none⟩)) rfl (by kernel_rfl) (by kernel_rfl) (by kernel_rfl) (fun _ _ _ h => h) (Or.inl ⟨by rfl, ?yq7⟩) (by assumption) ?rq7
        case yq7 => (intro wq hSw; (try simp only [List.getElem_toArray, List.getElem_cons_zero, List.getElem_cons_succ]); go_simp; (try with_reducible rfl); all_goals (try omega))
        case rq7 =>
        try simp only [Act.put, List.setIfInBounds_toArray, List.set_cons_zero, List.set_cons_succ, List.getElem_toArray, List.getElem_cons_zero, List.getElem_cons_succ]
        refine wpAnyH_take (i := 7) (v := .int .i64 x.id) rfl (by kernel_rfl) (by kernel_rfl) (by kernel_rfl) (fun _ _ _ h => h) (Or.inl ⟨by rfl, ?yq8⟩) (by assumption) ?rq8
        case yq8 => (intro wq hSw; obtain ⟨k1, k2⟩ := hSw; (try simp only [List.getElem_toArray, List.getElem_cons_zero, List.getElem_cons_succ]); go_simp; (try with_reducible rfl); all_goals (try omega))
        case rq8 =>
        try simp only [Act.put, List.setIfInBounds_toArray, List.set_cons_zero, List.set_cons_succ, List.getElem_toArray, List.getElem_cons_zero, List.getElem_cons_succ]
        refine wpAnyH_take (i := 8) (v := .pointer (some ⟨X, 0, none⟩)) rfl (by kernel_rfl) (by kernel_rfl) (by kernel_rfl) (fun _ _ _ h => h) (Or.inl ⟨by rfl, ?yq9⟩) (by assumption) ?rq9
        case yq9 => (intro wq hSw; (try simp only [List.getElem_toArray, List.getElem_cons_zero, List.getElem_cons_succ]); go_simp; (try with_reducible rfl); all_goals (try omega))
        case rq9 =>
        try simp only [Act.put, List.setIfInBounds_toArray, List.set_cons_zero, List.set_cons_succ, List.getElem_toArray, List.getElem_cons_zero, List.getElem_cons_succ]
        refine wpAnyH_take (i := 9) (v := .int .i64 e.id) rfl (by kernel_rfl) (by kernel_rfl) (by kernel_rfl) (fun _ _ _ h => h) (Or.inl ⟨by rfl, ?yq10⟩) (by assumption) ?rq10
        case yq10 => (intro wq hSw; obtain ⟨k1, k2⟩ := hSw; (try simp only [List.getElem_toArray, List.getElem_cons_zero, List.getElem_cons_succ]); go_simp; (try with_reducible rfl); all_goals (try omega))
        case rq10 =>
        try simp only [Act.put, List.setIfInBounds_toArray, List.set_cons_zero, List.set_cons_succ, List.getElem_toArray, List.getElem_cons_zero, List.getElem_cons_succ]
        refine wpAnyH_take (i := 10) (v := .bool (decide (e.id ≤ x.id))) rfl (by kernel_rfl) (by kernel_rfl) (by kernel_rfl) (fun _ _ _ h => h) (Or.inl ⟨by rfl, ?yq11⟩) (by assumption) ?rq11
        case yq11 => (intro wq hSw; (try simp only [List.getElem_toArray, List.getElem_cons_zero, List.getElem_cons_succ]); go_simp; (try with_reducible rfl); all_goals (try omega))
        case rq11 =>
        try simp only [Act.put, List.setIfInBounds_toArray, List.set_cons_zero, List.set_cons_succ, List.getElem_toArray, List.getElem_cons_zero, List.getElem_cons_succ]
        refine wpAnyH_take (i := 11) (v := .bool (decide (e.id ≤ x.id))) rfl (by kernel_rfl) (by kernel_rfl) (by kernel_rfl) (fun _ _ _ h => h) (Or.inl ⟨by rfl, ?yq12⟩) (by assumption) ?rq12
        case yq12 => (intro wq hSw; (try simp only [List.getElem_toArray, List.getElem_cons_zero, List.getElem_cons_succ]); go_simp; (try with_reducible rfl); all_goals (try omega))
        case rq12 =>
        try simp only [Act.put, List.setIfInBounds_toArray, List.set_cons_zero, List.set_cons_succ, List.getElem_toArray, List.getElem_cons_zero, List.getElem_cons_succ]
        refine wpAnyH_done (by kernel_rfl) ?_ _
        clear hHeld
        have HOd := Lib.hid (own_rows_turn HO.out ((Turn.refl (fun _ => False) wr).drew) (fun _ _ => id))
        have HTd := Lib.hid (HT.out.drew)
        obtain ⟨wd, hwd⟩ : ∃ wd, wr.drew = wd := ⟨_, rfl⟩
        rw [hwd] at HOd HTd ⊢
        clear hwd
        by_cases hge : e.id ≤ x.id
        · rw [decide_eq_true hge]
          by_cases heq : x.id = e.id
          · go_wp2_with (with_reducible (show wpList _ _ _ (Oper.mk (some 27) (.load 24 (.tmp 3)) _ _ _ _ :: _) _ _); refine still ?_)
            refine wpList_load_mid rfl 24 (.tmp 3) rfl X 0 rfl e.vals _ (rangeAt_turn HRX.out HTd.out id) Try.underlying24 rfl el_info ?_
            obtain ⟨va, wa, hra, hoa, tta, aa, ca, hva⟩ := app_one wd w1.heap.size 30 30 Try.underlying30 _ (outP (l.take k) e) e HOd.out HTd.out.size (by have := outP_len (l.take k) e; have : (l.take k).length ≤ k := List.length_take_le _ _; (try simp only [List.length_append, List.length_cons, List.length_nil]); omega)
            have HRa := Lib.hid hra
            have HOa := Lib.hid hoa
            have HTa := Lib.hid (turn_on HOd.out (Nat.le_refl _) HTd.out tta)
            clear hra hoa tta hva
            go_wp2_with (with_reducible (show wpList _ _ _ (Oper.mk (some 28) _ _ _ _ _ :: _) _ _); refine still ?_)
            refine list_exec rfl _ _ (exec_build_one _ _ (.tmp 27) 30 Try.underlying30 rfl e rfl _) ?_
            go_wp2_with (with_reducible (show wpList _ _ _ (Oper.mk (some 29) _ _ _ _ _ :: _) _ _); refine still ?_)
            refine list_exec rfl _ _ (exec_append _ _ (.tmp 26) (.tmp 28) 30 rfl _ _ _ _ _ rfl rfl HRa.out) ?_
            have d1 := HTa.out.cells_at HE0.out
            have HS2 := Lib.hid (show wa.rangeAt g (o + k * 10) x.vals from by
              obtain ⟨g', o', h1, _, h3⟩ := (HV.out.turn HTa.out (fun _ _ => id)).one HN.out k hlt
              injection h1 with h1
              injection h1 with h1 h2 _
              subst h1 h2
              rwa [HX.out] at h3)
            have d2 := range0 HS2.out
            go_wp2_with fail
            refine wp_region_held_drew (S := fun wq => wq.cell? ⟨g, o + k * 10, none⟩ = some (.int .i64 x.id) ∧ wq.cell? ⟨X, 0, none⟩ = some (.int .i64 e.id)) (by kernel_rfl) ⟨d2, d1⟩ (fun hHeld => ?_)
            refine wpAnyH_take (i := 0) (v := .slice (some ⟨g, o, none⟩) n lc) rfl (by kernel_rfl) (by kernel_rfl) (by kernel_rfl) (fun _ _ _ h => h) (Or.inl ⟨by rfl, ?yq13⟩) (by assumption) ?rq13
            case yq13 => (intro wq hSw; (try simp only [List.getElem_toArray, List.getElem_cons_zero, List.getElem_cons_succ]); go_simp; (try with_reducible rfl); all_goals (try omega))
            case rq13 =>
            try simp only [Act.put, List.setIfInBounds_toArray, List.set_cons_zero, List.set_cons_succ, List.getElem_toArray, List.getElem_cons_zero, List.getElem_cons_succ]
            refine wpAnyH_take (i := 1) (v := .int .i64 (k : Int)) rfl (by kernel_rfl) (by kernel_rfl) (by kernel_rfl) (fun _ _ _ h => h) (Or.inl ⟨by rfl, ?yq14⟩) (by assumption) ?rq14
            case yq14 => (intro wq hSw; (try simp only [List.getElem_toArray, List.getElem_cons_zero, List.getElem_cons_succ]); go_simp; (try with_reducible rfl); all_goals (try omega))
            case rq14 =>
            try simp only [Act.put, List.setIfInBounds_toArray, List.set_cons_zero, List.set_cons_succ, List.getElem_toArray, List.getElem_cons_zero, List.getElem_cons_succ]
            refine wpAnyH_take (i := 2) (v := .pointer (some ⟨g, o + k * 10, none⟩)) rfl (by kernel_rfl) (by kernel_rfl) (by kernel_rfl) (fun _ _ _ h => h) (Or.inl ⟨by rfl, ?yq15⟩) (by assumption) ?rq15
            case yq15 => (intro wq hSw; (try simp only [List.getElem_toArray, List.getElem_cons_zero, List.getElem_cons_succ]); go_simp; (try with_reducible rfl); all_goals (try omega))
            case rq15 =>
            try simp only [Act.put, List.setIfInBounds_toArray, List.set_cons_zero, List.set_cons_succ, List.getElem_toArray, List.getElem_cons_zero, List.getElem_cons_succ]
            refine wpAnyH_take (i := 3) (v := .pointer (some ⟨g, o + k * 10, none⟩)) rfl (by kernel_rfl) (by kernel_rfl) (by kernel_rfl) (fun _ _ _ h => h) (Or.inl ⟨by rfl, ?yq16⟩) (by assumption) ?rq16
            case yq16 => (intro wq hSw; (try simp only [List.getElem_toArray, List.getElem_cons_zero, List.getElem_cons_succ]); go_simp; (try with_reducible rfl); all_goals (try omega))
            case rq16 =>
            try simp only [Act.put, List.setIfInBounds_toArray, List.set_cons_zero, List.set_cons_succ, List.getElem_toArray, List.getElem_cons_zero, List.getElem_cons_succ]
            refine wpAnyH_take (i := 4) (v := .int .i64 x.id) rfl (by kernel_rfl) (by kernel_rfl) (by kernel_rfl) (fun _ _ _ h => h) (Or.inl ⟨by rfl, ?yq17⟩) (by assumption) ?rq17
            case yq17 => (intro wq hSw; obtain ⟨k1, k2⟩ := hSw; (try simp only [List.getElem_toArray, List.getElem_cons_zero, List.getElem_cons_succ]); go_simp; (try with_reducible rfl); all_goals (try omega))
            case rq17 =>
            try simp only [Act.put, List.setIfInBounds_toArray, List.set_cons_zero, List.set_cons_succ, List.getElem_toArray, List.getElem_cons_zero, List.getElem_cons_succ]
            refine wpAnyH_take (i := 5) (v := .pointer (some ⟨X, 0, none⟩)) rfl (by kernel_rfl) (by kernel_rfl) (by kernel_rfl) (fun _ _ _ h => h) (Or.inl ⟨by rfl, ?yq18⟩) (by assumption) ?rq18
            case yq18 => (intro wq hSw; (try simp only [List.getElem_toArray, List.getElem_cons_zero, List.getElem_cons_succ]); go_simp; (try with_reducible rfl); all_goals (try omega))
            case rq18 =>
            try simp only [Act.put, List.setIfInBounds_toArray, List.set_cons_zero, List.set_cons_succ, List.getElem_toArray, List.getElem_cons_zero, List.getElem_cons_succ]
            refine wpAnyH_take (i := 6) (v := .int .i64 e.id) rfl (by kernel_rfl) (by kernel_rfl) (by kernel_rfl) (fun _ _ _ h => h) (Or.inl ⟨by rfl, ?yq19⟩) (by assumption) ?rq19
            case yq19 => (intro wq hSw; obtain ⟨k1, k2⟩ := hSw; (try simp only [List.getElem_toArray, List.getElem_cons_zero, List.getElem_cons_succ]); go_simp; (try with_reducible rfl); all_goals (try omega))
            case rq19 =>
            try simp only [Act.put, List.setIfInBounds_toArray, List.set_cons_zero, List.set_cons_succ, List.getElem_toArray, List.getElem_cons_zero, List.getElem_cons_succ]
            refine wpAnyH_take (i := 7) (v := .bool (x.id != e.id)) rfl (by kernel_rfl) (by kernel_rfl) (by kernel_rfl) (fun _ _ _ h => h) (Or.inl ⟨by rfl, ?yq20⟩) (by assumption) ?rq20
            case yq20 => (intro wq hSw; (try simp only [List.getElem_toArray, List.getElem_cons_zero, List.getElem_cons_succ]); go_simp; (try with_reducible rfl); all_goals (try omega))
            case rq20 =>
            try simp only [Act.put, List.setIfInBounds_toArray, List.set_cons_zero, List.set_cons_succ, List.getElem_toArray, List.getElem_cons_zero, List.getElem_cons_succ]
            refine wpAnyH_done (by kernel_rfl) ?_ _
            clear hHeld d1 d2
            rw [show (x.id != e.id) = false by simp; omega]
            have HOb := Lib.hid (own_rows_turn HOa.out ((Turn.refl (fun _ => False) wa).drew) (fun _ _ => id))
            have HTb := Lib.hid (HTa.out.drew)
            obtain ⟨wb, hwb⟩ : ∃ wb, wa.drew = wb := ⟨_, rfl⟩
            rw [hwb] at HOb HTb ⊢
            clear hwb
            have hq := hBB.out heq
            have Q1 := Lib.hid hq.2.1
            have Q2 := Lib.hid hq.2.2
            clear hq
            clear c1 c2
            go_wp2_with fail
            go_roundw
            case rel => exact ⟨k + 1, by omega, by go_num, by rw [Q1.out], by rw [Q2.out]; exact HOb.out, HTb.out⟩
            case measure => simp [intOf]; omega
          · go_wp2_with (with_reducible (show wpList _ _ _ (Oper.mk (some 27) (.load 24 (.tmp 3)) _ _ _ _ :: _) _ _); refine still ?_)
            refine wpList_load_mid rfl 24 (.tmp 3) rfl X 0 rfl e.vals _ (rangeAt_turn HRX.out HTd.out id) Try.underlying24 rfl el_info ?_
            obtain ⟨va, wa, hra, hoa, tta, aa, ca, hva⟩ := app_one wd w1.heap.size 30 30 Try.underlying30 _ (outP (l.take k) e) e HOd.out HTd.out.size (by have := outP_len (l.take k) e; have : (l.take k).length ≤ k := List.length_take_le _ _; (try simp only [List.length_append, List.length_cons, List.length_nil]); omega)
            have HRa := Lib.hid hra
            have HOa := Lib.hid hoa
            have HTa := Lib.hid (turn_on HOd.out (Nat.le_refl _) HTd.out tta)
            clear hra hoa tta hva
            go_wp2_with (with_reducible (show wpList _ _ _ (Oper.mk (some 28) _ _ _ _ _ :: _) _ _); refine still ?_)
            refine list_exec rfl _ _ (exec_build_one _ _ (.tmp 27) 30 Try.underlying30 rfl e rfl _) ?_
            go_wp2_with (with_reducible (show wpList _ _ _ (Oper.mk (some 29) _ _ _ _ _ :: _) _ _); refine still ?_)
            refine list_exec rfl _ _ (exec_append _ _ (.tmp 26) (.tmp 28) 30 rfl _ _ _ _ _ rfl rfl HRa.out) ?_
            have d1 := HTa.out.cells_at HE0.out
            have HS2 := Lib.hid (show wa.rangeAt g (o + k * 10) x.vals from by
              obtain ⟨g', o', h1, _, h3⟩ := (HV.out.turn HTa.out (fun _ _ => id)).one HN.out k hlt
              injection h1 with h1
              injection h1 with h1 h2 _
              subst h1 h2
              rwa [HX.out] at h3)
            have d2 := range0 HS2.out
            go_wp2_with fail
            refine wp_region_held_drew (S := fun wq => wq.cell? ⟨g, o + k * 10, none⟩ = some (.int .i64 x.id) ∧ wq.cell? ⟨X, 0, none⟩ = some (.int .i64 e.id)) (by kernel_rfl) ⟨d2, d1⟩ (fun hHeld => ?_)
            refine wpAnyH_take (i := 0) (v := .slice (some ⟨g, o, none⟩) n lc) rfl (by kernel_rfl) (by kernel_rfl) (by kernel_rfl) (fun _ _ _ h => h) (Or.inl ⟨by rfl, ?yq21⟩) (by assumption) ?rq21
            case yq21 => (intro wq hSw; (try simp only [List.getElem_toArray, List.getElem_cons_zero, List.getElem_cons_succ]); go_simp; (try with_reducible rfl); all_goals (try omega))
            case rq21 =>
            try simp only [Act.put, List.setIfInBounds_toArray, List.set_cons_zero, List.set_cons_succ, List.getElem_toArray, List.getElem_cons_zero, List.getElem_cons_succ]
            refine wpAnyH_take (i := 1) (v := .int .i64 (k : Int)) rfl (by kernel_rfl) (by kernel_rfl) (by kernel_rfl) (fun _ _ _ h => h) (Or.inl ⟨by rfl, ?yq22⟩) (by assumption) ?rq22
            case yq22 => (intro wq hSw; (try simp only [List.getElem_toArray, List.getElem_cons_zero, List.getElem_cons_succ]); go_simp; (try with_reducible rfl); all_goals (try omega))
            case rq22 =>
            try simp only [Act.put, List.setIfInBounds_toArray, List.set_cons_zero, List.set_cons_succ, List.getElem_toArray, List.getElem_cons_zero, List.getElem_cons_succ]
            refine wpAnyH_take (i := 2) (v := .pointer (some ⟨g, o + k * 10, none⟩)) rfl (by kernel_rfl) (by kernel_rfl) (by kernel_rfl) (fun _ _ _ h => h) (Or.inl ⟨by rfl, ?yq23⟩) (by assumption) ?rq23
            case yq23 => (intro wq hSw; (try simp only [List.getElem_toArray, List.getElem_cons_zero, List.getElem_cons_succ]); go_simp; (try with_reducible rfl); all_goals (try omega))
            case rq23 =>
            try simp only [Act.put, List.setIfInBounds_toArray, List.set_cons_zero, List.set_cons_succ, List.getElem_toArray, List.getElem_cons_zero, List.getElem_cons_succ]
            refine wpAnyH_take (i := 3) (v := .pointer (some ⟨g, o + k * 10, none⟩)) rfl (by kernel_rfl) (by kernel_rfl) (by kernel_rfl) (fun _ _ _ h => h) (Or.inl ⟨by rfl, ?yq24⟩) (by assumption) ?rq24
            case yq24 => (intro wq hSw; (try simp only [List.getElem_toArray, List.getElem_cons_zero, List.getElem_cons_succ]); go_simp; (try with_reducible rfl); all_goals (try omega))
            case rq24 =>
            try simp only [Act.put, List.setIfInBounds_toArray, List.set_cons_zero, List.set_cons_succ, List.getElem_toArray, List.getElem_cons_zero, List.getElem_cons_succ]
            refine wpAnyH_take (i := 4) (v := .int .i64 x.id) rfl (by kernel_rfl) (by kernel_rfl) (by kernel_rfl) (fun _ _ _ h => h) (Or.inl ⟨by rfl, ?yq25⟩) (by assumption) ?rq25
            case yq25 => (intro wq hSw; obtain ⟨k1, k2⟩ := hSw; (try simp only [List.getElem_toArray, List.getElem_cons_zero, List.getElem_cons_succ]); go_simp; (try with_reducible rfl); all_goals (try omega))
            case rq25 =>
            try simp only [Act.put, List.setIfInBounds_toArray, List.set_cons_zero, List.set_cons_succ, List.getElem_toArray, List.getElem_cons_zero, List.getElem_cons_succ]
            refine wpAnyH_take (i := 5) (v := .pointer (some ⟨X, 0, none⟩)) rfl (by kernel_rfl) (by kernel_rfl) (by kernel_rfl) (fun _ _ _ h => h) (Or.inl ⟨by rfl, ?yq26⟩) (by assumption) ?rq26
            case yq26 => (intro wq hSw; (try simp only [List.getElem_toArray, List.getElem_cons_zero, List.getElem_cons_succ]); go_simp; (try with_reducible rfl); all_goals (try omega))
            case rq26 =>
            try simp only [Act.put, List.setIfInBounds_toArray, List.set_cons_zero, List.set_cons_succ, List.getElem_toArray, List.getElem_cons_zero, List.getElem_cons_succ]
            refine wpAnyH_take (i := 6) (v := .int .i64 e.id) rfl (by kernel_rfl) (by kernel_rfl) (by kernel_rfl) (fun _ _ _ h => h) (Or.inl ⟨by rfl, ?yq27⟩) (by assumption) ?rq27
            case yq27 => (intro wq hSw; obtain ⟨k1, k2⟩ := hSw; (try simp only [List.getElem_toArray, List.getElem_cons_zero, List.getElem_cons_succ]); go_simp; (try with_reducible rfl); all_goals (try omega))
            case rq27 =>
            try simp only [Act.put, List.setIfInBounds_toArray, List.set_cons_zero, List.set_cons_succ, List.getElem_toArray, List.getElem_cons_zero, List.getElem_cons_succ]
            refine wpAnyH_take (i := 7) (v := .bool (x.id != e.id)) rfl (by kernel_rfl) (by kernel_rfl) (by kernel_rfl) (fun _ _ _ h => h) (Or.inl ⟨by rfl, ?yq28⟩) (by assumption) ?rq28
            case yq28 => (intro wq hSw; (try simp only [List.getElem_toArray, List.getElem_cons_zero, List.getElem_cons_succ]); go_simp; (try with_reducible rfl); all_goals (try omega))
            case rq28 =>
            try simp only [Act.put, List.setIfInBounds_toArray, List.set_cons_zero, List.set_cons_succ, List.getElem_toArray, List.getElem_cons_zero, List.getElem_cons_succ]
            refine wpAnyH_done (by kernel_rfl) ?_ _
            clear hHeld d1 d2
            rw [show (x.id != e.id) = true by simp; omega]
            have HOb := Lib.hid (own_rows_turn HOa.out ((Turn.refl (fun _ => False) wa).drew) (fun _ _ => id))
            have HTb := Lib.hid (HTa.out.drew)
            obtain ⟨wb, hwb⟩ : ∃ wb, wa.drew = wb := ⟨_, rfl⟩
            rw [hwb] at HOb HTb ⊢
            clear hwb
            have HS3 := Lib.hid (show wb.rangeAt g (o + k * 10) x.vals from by
              obtain ⟨g', o', h1, _, h3⟩ := (HV.out.turn HTb.out (fun _ _ => id)).one HN.out k hlt
              injection h1 with h1
              injection h1 with h1 h2 _
              subst h1 h2
              rwa [HX.out] at h3)
            go_wp2_with (with_reducible (show wpList _ _ _ (Oper.mk (some 42) (.load 24 (.tmp 41)) _ _ _ _ :: _) _ _); refine still ?_)
            refine wpList_load_mid rfl 24 (.tmp 41) rfl g (o + k * 10) rfl x.vals _ HS3.out Try.underlying24 rfl el_info ?_
            obtain ⟨vc, wc, hrc, hoc, ttc, ac, cc, hvc⟩ := app_one wb w1.heap.size 30 30 Try.underlying30 _ (outP (l.take k) e ++ [e]) x HOb.out HTb.out.size (by have := outP_len (l.take k) e; have : (l.take k).length ≤ k := List.length_take_le _ _; (try simp only [List.length_append, List.length_cons, List.length_nil]); omega)
            have HRc := Lib.hid hrc
            have HOc := Lib.hid hoc
            have HTc := Lib.hid (turn_on HOb.out (Nat.le_refl _) HTb.out ttc)
            clear hrc hoc ttc hvc
            go_wp2_with (with_reducible (show wpList _ _ _ (Oper.mk (some 43) _ _ _ _ _ :: _) _ _); refine still ?_)
            refine list_exec rfl _ _ (exec_build_one _ _ (.tmp 42) 30 Try.underlying30 rfl x rfl _) ?_
            go_wp2_with (with_reducible (show wpList _ _ _ (Oper.mk (some 44) _ _ _ _ _ :: _) _ _); refine still ?_)
            refine list_exec rfl _ _ (exec_append _ _ (.tmp 38) (.tmp 43) 30 rfl _ _ _ _ _ rfl rfl HRc.out) ?_
            have hq := hC.out (by omega)
            rw [HDN.out] at hq
            have Q1 := Lib.hid hq.1
            have Q2 := Lib.hid hq.2
            clear hq
            clear c1 c2
            go_wp2_with fail
            go_roundw
            case rel => exact ⟨k + 1, by omega, by go_num, by rw [Q1.out], by rw [Q2.out]; exact HOc.out, HTc.out⟩
            case measure => simp [intOf]; omega
        · rw [decide_eq_false hge]
          have d1 := HTd.out.cells_at HE0.out
          have HS2 := Lib.hid (show wd.rangeAt g (o + k * 10) x.vals from by
            obtain ⟨g', o', h1, _, h3⟩ := (HV.out.turn HTd.out (fun _ _ => id)).one HN.out k hlt
            injection h1 with h1
            injection h1 with h1 h2 _
            subst h1 h2
            rwa [HX.out] at h3)
          have d2 := range0 HS2.out
          go_wp2_with fail
          refine wp_region_held_drew (S := fun wq => wq.cell? ⟨g, o + k * 10, none⟩ = some (.int .i64 x.id) ∧ wq.cell? ⟨X, 0, none⟩ = some (.int .i64 e.id)) (by kernel_rfl) ⟨d2, d1⟩ (fun hHeld => ?_)
          refine wpAnyH_take (i := 0) (v := .slice (some ⟨g, o, none⟩) n lc) rfl (by kernel_rfl) (by kernel_rfl) (by kernel_rfl) (fun _ _ _ h => h) (Or.inl ⟨by rfl, ?yq29⟩) (by assumption) ?rq29
          case yq29 => (intro wq hSw; (try simp only [List.getElem_toArray, List.getElem_cons_zero, List.getElem_cons_succ]); go_simp; (try with_reducible rfl); all_goals (try omega))
          case rq29 =>
          try simp only [Act.put, List.setIfInBounds_toArray, List.set_cons_zero, List.set_cons_succ, List.getElem_toArray, List.getElem_cons_zero, List.getElem_cons_succ]
          refine wpAnyH_take (i := 1) (v := .int .i64 (k : Int)) rfl (by kernel_rfl) (by kernel_rfl) (by kernel_rfl) (fun _ _ _ h => h) (Or.inl ⟨by rfl, ?yq30⟩) (by assumption) ?rq30
          case yq30 => (intro wq hSw; (try simp only [List.getElem_toArray, List.getElem_cons_zero, List.getElem_cons_succ]); go_simp; (try with_reducible rfl); all_goals (try omega))
          case rq30 =>
          try simp only [Act.put, List.setIfInBounds_toArray, List.set_cons_zero, List.set_cons_succ, List.getElem_toArray, List.getElem_cons_zero, List.getElem_cons_succ]
          refine wpAnyH_take (i := 2) (v := .pointer (some ⟨g, o + k * 10, none⟩)) rfl (by kernel_rfl) (by kernel_rfl) (by kernel_rfl) (fun _ _ _ h => h) (Or.inl ⟨by rfl, ?yq31⟩) (by assumption) ?rq31
          case yq31 => (intro wq hSw; (try simp only [List.getElem_toArray, List.getElem_cons_zero, List.getElem_cons_succ]); go_simp; (try with_reducible rfl); all_goals (try omega))
          case rq31 =>
          try simp only [Act.put, List.setIfInBounds_toArray, List.set_cons_zero, List.set_cons_succ, List.getElem_toArray, List.getElem_cons_zero, List.getElem_cons_succ]
          refine wpAnyH_take (i := 3) (v := .pointer (some ⟨g, o + k * 10, none⟩)) rfl (by kernel_rfl) (by kernel_rfl) (by kernel_rfl) (fun _ _ _ h => h) (Or.inl ⟨by rfl, ?yq32⟩) (by assumption) ?rq32
          case yq32 => (intro wq hSw; (try simp only [List.getElem_toArray, List.getElem_cons_zero, List.getElem_cons_succ]); go_simp; (try with_reducible rfl); all_goals (try omega))
          case rq32 =>
          try simp only [Act.put, List.setIfInBounds_toArray, List.set_cons_zero, List.set_cons_succ, List.getElem_toArray, List.getElem_cons_zero, List.getElem_cons_succ]
          refine wpAnyH_take (i := 4) (v := .int .i64 x.id) rfl (by kernel_rfl) (by kernel_rfl) (by kernel_rfl) (fun _ _ _ h => h) (Or.inl ⟨by rfl, ?yq33⟩) (by assumption) ?rq33
          case yq33 => (intro wq hSw; obtain ⟨k1, k2⟩ := hSw; (try simp only [List.getElem_toArray, List.getElem_cons_zero, List.getElem_cons_succ]); go_simp; (try with_reducible rfl); all_goals (try omega))
          case rq33 =>
          try simp only [Act.put, List.setIfInBounds_toArray, List.set_cons_zero, List.set_cons_succ, List.getElem_toArray, List.getElem_cons_zero, List.getElem_cons_succ]
          refine wpAnyH_take (i := 5) (v := .pointer (some ⟨X, 0, none⟩)) rfl (by kernel_rfl) (by kernel_rfl) (by kernel_rfl) (fun _ _ _ h => h) (Or.inl ⟨by rfl, ?yq34⟩) (by assumption) ?rq34
          case yq34 => (intro wq hSw; (try simp only [List.getElem_toArray, List.getElem_cons_zero, List.getElem_cons_succ]); go_simp; (try with_reducible rfl); all_goals (try omega))
          case rq34 =>
          try simp only [Act.put, List.setIfInBounds_toArray, List.set_cons_zero, List.set_cons_succ, List.getElem_toArray, List.getElem_cons_zero, List.getElem_cons_succ]
          refine wpAnyH_take (i := 6) (v := .int .i64 e.id) rfl (by kernel_rfl) (by kernel_rfl) (by kernel_rfl) (fun _ _ _ h => h) (Or.inl ⟨by rfl, ?yq35⟩) (by assumption) ?rq35
          case yq35 => (intro wq hSw; obtain ⟨k1, k2⟩ := hSw; (try simp only [List.getElem_toArray, List.getElem_cons_zero, List.getElem_cons_succ]); go_simp; (try with_reducible rfl); all_goals (try omega))
          case rq35 =>
          try simp only [Act.put, List.setIfInBounds_toArray, List.set_cons_zero, List.set_cons_succ, List.getElem_toArray, List.getElem_cons_zero, List.getElem_cons_succ]
          refine wpAnyH_take (i := 7) (v := .bool (x.id != e.id)) rfl (by kernel_rfl) (by kernel_rfl) (by kernel_rfl) (fun _ _ _ h => h) (Or.inl ⟨by rfl, ?yq36⟩) (by assumption) ?rq36
          case yq36 => (intro wq hSw; (try simp only [List.getElem_toArray, List.getElem_cons_zero, List.getElem_cons_succ]); go_simp; (try with_reducible rfl); all_goals (try omega))
          case rq36 =>
          try simp only [Act.put, List.setIfInBounds_toArray, List.set_cons_zero, List.set_cons_succ, List.getElem_toArray, List.getElem_cons_zero, List.getElem_cons_succ]
          refine wpAnyH_done (by kernel_rfl) ?_ _
          clear hHeld d1 d2
          rw [show (x.id != e.id) = true by simp; omega]
          have HOb := Lib.hid (own_rows_turn HOd.out ((Turn.refl (fun _ => False) wd).drew) (fun _ _ => id))
          have HTb := Lib.hid (HTd.out.drew)
          obtain ⟨wb, hwb⟩ : ∃ wb, wd.drew = wb := ⟨_, rfl⟩
          rw [hwb] at HOb HTb ⊢
          clear hwb
          have HS3 := Lib.hid (show wb.rangeAt g (o + k * 10) x.vals from by
            obtain ⟨g', o', h1, _, h3⟩ := (HV.out.turn HTb.out (fun _ _ => id)).one HN.out k hlt
            injection h1 with h1
            injection h1 with h1 h2 _
            subst h1 h2
            rwa [HX.out] at h3)
          go_wp2_with (with_reducible (show wpList _ _ _ (Oper.mk (some 42) (.load 24 (.tmp 41)) _ _ _ _ :: _) _ _); refine still ?_)
          refine wpList_load_mid rfl 24 (.tmp 41) rfl g (o + k * 10) rfl x.vals _ HS3.out Try.underlying24 rfl el_info ?_
          obtain ⟨vc, wc, hrc, hoc, ttc, ac, cc, hvc⟩ := app_one wb w1.heap.size 30 30 Try.underlying30 _ (outP (l.take k) e) x HOb.out HTb.out.size (by have := outP_len (l.take k) e; have : (l.take k).length ≤ k := List.length_take_le _ _; (try simp only [List.length_append, List.length_cons, List.length_nil]); omega)
          have HRc := Lib.hid hrc
          have HOc := Lib.hid hoc
          have HTc := Lib.hid (turn_on HOb.out (Nat.le_refl _) HTb.out ttc)
          clear hrc hoc ttc hvc
          go_wp2_with (with_reducible (show wpList _ _ _ (Oper.mk (some 43) _ _ _ _ _ :: _) _ _); refine still ?_)
          refine list_exec rfl _ _ (exec_build_one _ _ (.tmp 42) 30 Try.underlying30 rfl x rfl _) ?_
          go_wp2_with (with_reducible (show wpList _ _ _ (Oper.mk (some 44) _ _ _ _ _ :: _) _ _); refine still ?_)
          refine list_exec rfl _ _ (exec_append _ _ (.tmp 38) (.tmp 43) 30 rfl _ _ _ _ _ rfl rfl HRc.out) ?_
          have hq := hD.out (by omega)
          have Q1 := Lib.hid hq.2.1
          have Q2 := Lib.hid hq.2.2
          clear hq
          clear c1 c2
          go_wp2_with fail
          go_roundw
          case rel => exact ⟨k + 1, by omega, by go_num, by rw [Q1.out, ← HDN.out], by rw [Q2.out]; exact HOc.out, HTc.out⟩
          case measure => simp [intOf]; omega
      · have HDN := Lib.hid hdn
        have hgt := hA.out hdn
        clear hdn
        refine wp_region_held_drew (S := fun wq => wq.cell? ⟨g, o + k * 10, none⟩ = some (.int .i64 x.id) ∧ wq.cell? ⟨X, 0, none⟩ = some (.int .i64 e.id)) (by kernel_rfl) ⟨c1, c2⟩ (fun hHeld => ?_)
        refine wpAnyH_take (i := 0) (v := .bool true) rfl (by kernel_rfl) (by kernel_rfl) (by kernel_rfl) (fun _ _ _ h => h) (Or.inl ⟨by rfl, ?yq37⟩) (by assumption) ?rq37
        case yq37 => (intro wq hSw; (try simp only [List.getElem_toArray, List.getElem_cons_zero, List.getElem_cons_succ]); go_simp; (try with_reducible rfl); all_goals (try omega))
        case rq37 =>
        try simp only [Act.put, List.setIfInBounds_toArray, List.set_cons_zero, List.set_cons_succ, List.getElem_toArray, List.getElem_cons_zero, List.getElem_cons_succ]
        refine wpAnyH_take (i := 1) (v := .bool false) rfl (by kernel_rfl) (by kernel_rfl) (by kernel_rfl) (fun _ _ _ h => h) (Or.inl ⟨by rfl, ?yq38⟩) (by assumption) ?rq38
        case yq38 => (intro wq hSw; (try simp only [List.getElem_toArray, List.getElem_cons_zero, List.getElem_cons_succ]); go_simp; (try with_reducible rfl); all_goals (try omega))
        case rq38 =>
        try simp only [Act.put, List.setIfInBounds_toArray, List.set_cons_zero, List.set_cons_succ, List.getElem_toArray, List.getElem_cons_zero, List.getElem_cons_succ]
        refine wpAnyH_take (i := 2) (v := .bool false) rfl (by kernel_rfl) (by kernel_rfl) (by kernel_rfl) (fun _ _ _ h => h) (Or.inl ⟨by rfl, ?yq39⟩) (by assumption) ?rq39
        case yq39 => (intro wq hSw; (try simp only [List.getElem_toArray, List.getElem_cons_zero, List.getElem_cons_succ]); go_simp; (try with_reducible rfl); all_goals (try omega))
        case rq39 =>
        try simp only [Act.put, List.setIfInBounds_toArray, List.set_cons_zero, List.set_cons_succ, List.getElem_toArray, List.getElem_cons_zero, List.getElem_cons_succ]
        refine wpAnyH_take (i := 3) (v := undef) rfl (by kernel_rfl) (by kernel_rfl) (by kernel_rfl) (fun _ _ _ h => h) (Or.inr ⟨by rfl, rfl⟩) (by assumption) ?rq40
        case rq40 =>
        try simp only [Act.put, List.setIfInBounds_toArray, List.set_cons_zero, List.set_cons_succ, List.getElem_toArray, List.getElem_cons_zero, List.getElem_cons_succ]
        refine wpAnyH_take (i := 4) (v := undef) rfl (by kernel_rfl) (by kernel_rfl) (by kernel_rfl) (fun _ _ _ h => h) (Or.inr ⟨by rfl, rfl⟩) (by assumption) ?rq41
        case rq41 =>
        try simp only [Act.put, List.setIfInBounds_toArray, List.set_cons_zero, List.set_cons_succ, List.getElem_toArray, List.getElem_cons_zero, List.getElem_cons_succ]
        refine wpAnyH_take (i := 5) (v := undef) rfl (by kernel_rfl) (by kernel_rfl) (by kernel_rfl) (fun _ _ _ h => h) (Or.inr ⟨by rfl, rfl⟩) (by assumption) ?rq42
        case rq42 =>
        try simp only [Act.put, List.setIfInBounds_toArray, List.set_cons_zero, List.set_cons_succ, List.getElem_toArray, List.getElem_cons_zero, List.getElem_cons_succ]
        refine wpAnyH_take (i := 6) (v := undef) rfl (by kernel_rfl) (by kernel_rfl) (by kernel_rfl) (fun _ _ _ h => h) (Or.inr ⟨by rfl, rfl⟩) (by assumption) ?rq43
        case rq43 =>
        try simp only [Act.put, List.setIfInBounds_toArray, List.set_cons_zero, List.set_cons_succ, List.getElem_toArray, List.getElem_cons_zero, List.getElem_cons_succ]
        refine wpAnyH_take (i := 7) (v := undef) rfl (by kernel_rfl) (by kernel_rfl) (by kernel_rfl) (fun _ _ _ h => h) (Or.inr ⟨by rfl, rfl⟩) (by assumption) ?rq44
        case rq44 =>
        try simp only [Act.put, List.setIfInBounds_toArray, List.set_cons_zero, List.set_cons_succ, List.getElem_toArray, List.getElem_cons_zero, List.getElem_cons_succ]
        refine wpAnyH_take (i := 8) (v := undef) rfl (by kernel_rfl) (by kernel_rfl) (by kernel_rfl) (fun _ _ _ h => h) (Or.inr ⟨by rfl, rfl⟩) (by assumption) ?rq45
        case rq45 =>
        try simp only [Act.put, List.setIfInBounds_toArray, List.set_cons_zero, List.set_cons_succ, List.getElem_toArray, List.getElem_cons_zero, List.getElem_cons_succ]
        refine wpAnyH_take (i := 9) (v := undef) rfl (by kernel_rfl) (by kernel_rfl) (by kernel_rfl) (fun _ _ _ h => h) (Or.inr ⟨by rfl, rfl⟩) (by assumption) ?rq46
        case rq46 =>
        try simp only [Act.put, List.setIfInBounds_toArray, List.set_cons_zero, List.set_cons_succ, List.getElem_toArray, List.getElem_cons_zero, List.getElem_cons_succ]
        refine wpAnyH_take (i := 10) (v := undef) rfl (by kernel_rfl) (by kernel_rfl) (by kernel_rfl) (fun _ _ _ h => h) (Or.inr ⟨by rfl, rfl⟩) (by assumption) ?rq47
        case rq47 =>
        try simp only [Act.put, List.setIfInBounds_toArray, List.set_cons_zero, List.set_cons_succ, List.getElem_toArray, List.getElem_cons_zero, List.getElem_cons_succ]
        refine wpAnyH_take (i := 11) (v := .bool false) rfl (by kernel_rfl) (by kernel_rfl) (by kernel_rfl) (fun _ _ _ h => h) (Or.inl ⟨by rfl, ?yq48⟩) (by assumption) ?rq48
        case yq48 => (intro wq hSw; (try simp only [List.getElem_toArray, List.getElem_cons_zero, List.getElem_cons_succ]); go_simp; (try with_reducible rfl); all_goals (try omega))
        case rq48 =>
        try simp only [Act.put, List.setIfInBounds_toArray, List.set_cons_zero, List.set_cons_succ, List.getElem_toArray, List.getElem_cons_zero, List.getElem_cons_succ]
        refine wpAnyH_done (by kernel_rfl) ?_ _
        clear hHeld
        have HOd := Lib.hid (own_rows_turn HO.out ((Turn.refl (fun _ => False) wr).drew) (fun _ _ => id))
        have HTd := Lib.hid (HT.out.drew)
        obtain ⟨wd, hwd⟩ : ∃ wd, wr.drew = wd := ⟨_, rfl⟩
        rw [hwd] at HOd HTd ⊢
        clear hwd
        have d1 := HTd.out.cells_at HE0.out
        have HS2 := Lib.hid (show wd.rangeAt g (o + k * 10) x.vals from by
          obtain ⟨g', o', h1, _, h3⟩ := (HV.out.turn HTd.out (fun _ _ => id)).one HN.out k hlt
          injection h1 with h1
          injection h1 with h1 h2 _
          subst h1 h2
          rwa [HX.out] at h3)
        have d2 := range0 HS2.out
        go_wp2_with fail
        refine wp_region_held_drew (S := fun wq => wq.cell? ⟨g, o + k * 10, none⟩ = some (.int .i64 x.id) ∧ wq.cell? ⟨X, 0, none⟩ = some (.int .i64 e.id)) (by kernel_rfl) ⟨d2, d1⟩ (fun hHeld => ?_)
        refine wpAnyH_take (i := 0) (v := .slice (some ⟨g, o, none⟩) n lc) rfl (by kernel_rfl) (by kernel_rfl) (by kernel_rfl) (fun _ _ _ h => h) (Or.inl ⟨by rfl, ?yq49⟩) (by assumption) ?rq49
        case yq49 => (intro wq hSw; (try simp only [List.getElem_toArray, List.getElem_cons_zero, List.getElem_cons_succ]); go_simp; (try with_reducible rfl); all_goals (try omega))
        case rq49 =>
        try simp only [Act.put, List.setIfInBounds_toArray, List.set_cons_zero, List.set_cons_succ, List.getElem_toArray, List.getElem_cons_zero, List.getElem_cons_succ]
        refine wpAnyH_take (i := 1) (v := .int .i64 (k : Int)) rfl (by kernel_rfl) (by kernel_rfl) (by kernel_rfl) (fun _ _ _ h => h) (Or.inl ⟨by rfl, ?yq50⟩) (by assumption) ?rq50
        case yq50 => (intro wq hSw; (try simp only [List.getElem_toArray, List.getElem_cons_zero, List.getElem_cons_succ]); go_simp; (try with_reducible rfl); all_goals (try omega))
        case rq50 =>
        try simp only [Act.put, List.setIfInBounds_toArray, List.set_cons_zero, List.set_cons_succ, List.getElem_toArray, List.getElem_cons_zero, List.getElem_cons_succ]
        refine wpAnyH_take (i := 2) (v := .pointer (some ⟨g, o + k * 10, none⟩)) rfl (by kernel_rfl) (by kernel_rfl) (by kernel_rfl) (fun _ _ _ h => h) (Or.inl ⟨by rfl, ?yq51⟩) (by assumption) ?rq51
        case yq51 => (intro wq hSw; (try simp only [List.getElem_toArray, List.getElem_cons_zero, List.getElem_cons_succ]); go_simp; (try with_reducible rfl); all_goals (try omega))
        case rq51 =>
        try simp only [Act.put, List.setIfInBounds_toArray, List.set_cons_zero, List.set_cons_succ, List.getElem_toArray, List.getElem_cons_zero, List.getElem_cons_succ]
        refine wpAnyH_take (i := 3) (v := .pointer (some ⟨g, o + k * 10, none⟩)) rfl (by kernel_rfl) (by kernel_rfl) (by kernel_rfl) (fun _ _ _ h => h) (Or.inl ⟨by rfl, ?yq52⟩) (by assumption) ?rq52
        case yq52 => (intro wq hSw; (try simp only [List.getElem_toArray, List.getElem_cons_zero, List.getElem_cons_succ]); go_simp; (try with_reducible rfl); all_goals (try omega))
        case rq52 =>
        try simp only [Act.put, List.setIfInBounds_toArray, List.set_cons_zero, List.set_cons_succ, List.getElem_toArray, List.getElem_cons_zero, List.getElem_cons_succ]
        refine wpAnyH_take (i := 4) (v := .int .i64 x.id) rfl (by kernel_rfl) (by kernel_rfl) (by kernel_rfl) (fun _ _ _ h => h) (Or.inl ⟨by rfl, ?yq53⟩) (by assumption) ?rq53
        case yq53 => (intro wq hSw; obtain ⟨k1, k2⟩ := hSw; (try simp only [List.getElem_toArray, List.getElem_cons_zero, List.getElem_cons_succ]); go_simp; (try with_reducible rfl); all_goals (try omega))
        case rq53 =>
        try simp only [Act.put, List.setIfInBounds_toArray, List.set_cons_zero, List.set_cons_succ, List.getElem_toArray, List.getElem_cons_zero, List.getElem_cons_succ]
        refine wpAnyH_take (i := 5) (v := .pointer (some ⟨X, 0, none⟩)) rfl (by kernel_rfl) (by kernel_rfl) (by kernel_rfl) (fun _ _ _ h => h) (Or.inl ⟨by rfl, ?yq54⟩) (by assumption) ?rq54
        case yq54 => (intro wq hSw; (try simp only [List.getElem_toArray, List.getElem_cons_zero, List.getElem_cons_succ]); go_simp; (try with_reducible rfl); all_goals (try omega))
        case rq54 =>
        try simp only [Act.put, List.setIfInBounds_toArray, List.set_cons_zero, List.set_cons_succ, List.getElem_toArray, List.getElem_cons_zero, List.getElem_cons_succ]
        refine wpAnyH_take (i := 6) (v := .int .i64 e.id) rfl (by kernel_rfl) (by kernel_rfl) (by kernel_rfl) (fun _ _ _ h => h) (Or.inl ⟨by rfl, ?yq55⟩) (by assumption) ?rq55
        case yq55 => (intro wq hSw; obtain ⟨k1, k2⟩ := hSw; (try simp only [List.getElem_toArray, List.getElem_cons_zero, List.getElem_cons_succ]); go_simp; (try with_reducible rfl); all_goals (try omega))
        case rq55 =>
        try simp only [Act.put, List.setIfInBounds_toArray, List.set_cons_zero, List.set_cons_succ, List.getElem_toArray, List.getElem_cons_zero, List.getElem_cons_succ]
        refine wpAnyH_take (i := 7) (v := .bool (x.id != e.id)) rfl (by kernel_rfl) (by kernel_rfl) (by kernel_rfl) (fun _ _ _ h => h) (Or.inl ⟨by rfl, ?yq56⟩) (by assumption) ?rq56
        case yq56 => (intro wq hSw; (try simp only [List.getElem_toArray, List.getElem_cons_zero, List.getElem_cons_succ]); go_simp; (try with_reducible rfl); all_goals (try omega))
        case rq56 =>
        try simp only [Act.put, List.setIfInBounds_toArray, List.set_cons_zero, List.set_cons_succ, List.getElem_toArray, List.getElem_cons_zero, List.getElem_cons_succ]
        refine wpAnyH_done (by kernel_rfl) ?_ _
        clear hHeld d1 d2
        rw [show (x.id != e.id) = true by simp; omega]
        have HOb := Lib.hid (own_rows_turn HOd.out ((Turn.refl (fun _ => False) wd).drew) (fun _ _ => id))
        have HTb := Lib.hid (HTd.out.drew)
        obtain ⟨wb, hwb⟩ : ∃ wb, wd.drew = wb := ⟨_, rfl⟩
        rw [hwb] at HOb HTb ⊢
        clear hwb
        have HS3 := Lib.hid (show wb.rangeAt g (o + k * 10) x.vals from by
          obtain ⟨g', o', h1, _, h3⟩ := (HV.out.turn HTb.out (fun _ _ => id)).one HN.out k hlt
          injection h1 with h1
          injection h1 with h1 h2 _
          subst h1 h2
          rwa [HX.out] at h3)
        go_wp2_with (with_reducible (show wpList _ _ _ (Oper.mk (some 42) (.load 24 (.tmp 41)) _ _ _ _ :: _) _ _); refine still ?_)
        refine wpList_load_mid rfl 24 (.tmp 41) rfl g (o + k * 10) rfl x.vals _ HS3.out Try.underlying24 rfl el_info ?_
        obtain ⟨vc, wc, hrc, hoc, ttc, ac, cc, hvc⟩ := app_one wb w1.heap.size 30 30 Try.underlying30 _ (outP (l.take k) e) x HOb.out HTb.out.size (by have := outP_len (l.take k) e; have : (l.take k).length ≤ k := List.length_take_le _ _; (try simp only [List.length_append, List.length_cons, List.length_nil]); omega)
        have HRc := Lib.hid hrc
        have HOc := Lib.hid hoc
        have HTc := Lib.hid (turn_on HOb.out (Nat.le_refl _) HTb.out ttc)
        clear hrc hoc ttc hvc
        go_wp2_with (with_reducible (show wpList _ _ _ (Oper.mk (some 43) _ _ _ _ _ :: _) _ _); refine still ?_)
        refine list_exec rfl _ _ (exec_build_one _ _ (.tmp 42) 30 Try.underlying30 rfl x rfl _) ?_
        go_wp2_with (with_reducible (show wpList _ _ _ (Oper.mk (some 44) _ _ _ _ _ :: _) _ _); refine still ?_)
        refine list_exec rfl _ _ (exec_append _ _ (.tmp 38) (.tmp 43) 30 rfl _ _ _ _ _ rfl rfl HRc.out) ?_
        have hq := hC.out hgt
        rw [HDN.out] at hq
        have Q1 := Lib.hid hq.1
        have Q2 := Lib.hid hq.2
        clear hq
        clear c1 c2
        go_wp2_with fail
        go_roundw
        case rel => exact ⟨k + 1, by omega, by go_num, by rw [Q1.out, ← HDN.out], by rw [Q2.out]; exact HOc.out, HTc.out⟩
        case measure => simp [intOf]; omega
    · have hke : k = n := by omega
      have hpe := outP_end (l := l) (e := e)
      have hto : l.take k = l := List.take_of_length_le (by rw [HN.out]; omega)
      have HPE := Lib.hid hpe
      have HTO := Lib.hid hto
      clear hpe hto
      cases hdn : doneB (l.take k) e
      · have HDN := Lib.hid hdn
        clear hdn
        have HTd := HT
        go_wp2_with (with_reducible (show wpList _ _ _ (Oper.mk (some 48) (.load 24 (.tmp 3)) _ _ _ _ :: _) _ _); refine still ?_)
        refine wpList_load_mid rfl 24 (.tmp 3) rfl X 0 rfl e.vals _ (rangeAt_turn HRX.out HT.out id) Try.underlying24 rfl el_info ?_
        obtain ⟨va, wa, hra, hoa, tta, aa, ca, hva⟩ := app_one wr w1.heap.size 30 30 Try.underlying30 _ (outP (l.take k) e) e HO.out HT.out.size (by have := outP_len (l.take k) e; have : (l.take k).length ≤ k := List.length_take_le _ _; (try simp only [List.length_append, List.length_cons, List.length_nil]); omega)
        have HRa := Lib.hid hra
        have HOa := Lib.hid hoa
        have HTa := Lib.hid (turn_on HO.out (Nat.le_refl _) HT.out tta)
        clear hra hoa tta hva
        go_wp2_with (with_reducible (show wpList _ _ _ (Oper.mk (some 49) _ _ _ _ _ :: _) _ _); refine still ?_)
        refine list_exec rfl _ _ (exec_build_one _ _ (.tmp 48) 30 Try.underlying30 rfl e rfl _) ?_
        go_wp2_with (with_reducible (show wpList _ _ _ (Oper.mk (some 50) _ _ _ _ _ :: _) _ _); refine still ?_)
        refine list_exec rfl _ _ (exec_append _ _ (.tmp 47) (.tmp 49) 30 rfl _ _ _ _ _ rfl rfl HRa.out) ?_
        go_wp2_with fail
        go_ret
        refine ⟨_, rfl, ?_, HB.out.turn.trans HTa.out (fun _ _ => id)⟩
        have h1 := HOa.out
        have h2 := HDN.out
        rw [HTO.out] at h1 h2
        rw [HPE.out, h2, if_neg (by simp)]
        exact own_base h1 HB.out.turn.size
      · have HDN := Lib.hid hdn
        clear hdn
        go_wp2_with fail
        go_ret
        refine ⟨_, rfl, ?_, HB.out.turn.trans HT.out (fun _ _ => id)⟩
        have h1 := HO.out
        have h2 := HDN.out
        rw [HTO.out] at h1 h2
        rw [HPE.out, h2, if_pos rfl]
        exact own_base h1 HB.out.turn.size
end Go.Proofs.Ytbokdgcdkmnldaa
