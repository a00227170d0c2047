/- Own contracts: an element is put. No statement is proved here. -/
import Derived.Test.YtbokdgcdkmnldaaCc
namespace Go.Proofs.Ytbokdgcdkmnldaa
set_option maxRecDepth 100000
open Go.RowKit
set_option linter.unusedVariables false
set_option linter.unusedSimpArgs false


theorem wp_exec {P : Program} {o : Oper} {a : Act} {K : Act → World → Prop} {Q : Exit → Act → World → Prop} {w w' : World} {v : Value} (he : (execOp a.eval o).run P w = .ok (.value v) w') (h : K (a.put o.dst v) w') : o.wp P a w K Q := by
  unfold Oper.wp
  rw [he]
  exact h
theorem el_size (w : World) : (sizeOf 24).run Try.prog w = .ok 10 w := by
  have h := el_info
  rw [Option.map_eq_some_iff] at h
  obtain ⟨i, hi, hs⟩ := h
  simp [sizeOf, typeInfo, hi, hs]
theorem exec_slice_hi (ev : Operand → Value) (op : Oper) {x y : Operand} (ho : op.op = .slice 30 x none (some y) none) (la : Option Addr) (n lc p : Nat) (hx : ev x = .slice la n lc) (hy : ev y = .int .i64 (p : Int)) (hp : p ≤ lc) (w : World) : (execOp ev op).run Try.prog w = .ok (.value (.slice la p lc)) w := by
  have h1 := run_slice_h (P := Try.prog) (w := w) 30 la n lc Try.underlying30 .i64 (p : Int) (by omega) (by omega)
  have hsz := el_size w
  unfold execOp
  simp only [ho, hx, hy, Option.map_some, Option.map_none]
  simp only [Sem.run_bind]
  rw [run_sliceAt_slice (w := w) 30 _ _ _ _ Try.underlying30, h1]
  rw [show Try.prog.elem 30 = 24 from rfl, hsz]
  cases la <;> simp [sliced, Addr.add]
theorem exec_slice_lo (ev : Operand → Value) (op : Oper) {x y : Operand} (ho : op.op = .slice 30 x (some y) none none) (la : Option Addr) (n lc p : Nat) (hx : ev x = .slice la n lc) (hy : ev y = .int .i64 (p : Int)) (hp : p ≤ n) (w : World) : (execOp ev op).run Try.prog w = .ok (.value (.slice (if lc = p then la else la.map (·.add (p * 10))) (n - p) (lc - p))) w := by
  have h1 := run_slice_l (P := Try.prog) (w := w) 30 la n lc Try.underlying30 .i64 (p : Int) (by omega) (by omega)
  have hsz := el_size w
  unfold execOp
  simp only [ho, hx, hy, Option.map_some, Option.map_none]
  simp only [Sem.run_bind]
  rw [run_sliceAt_slice (w := w) 30 _ _ _ _ Try.underlying30, h1]
  rw [show Try.prog.elem 30 = 24 from rfl, hsz]
  simp [sliced]
theorem RowV.cap {w : World} {la : Option Addr} {n lc : Nat} {l : List El} (h : RowV w (.slice la n lc) l) (hn : l.length = n) : n ≤ lc := by
  rcases h with ⟨h1, h2⟩ | ⟨g, o, c, h1, h2, h3, h4⟩
  · injection h1 with q1 q2 q3; omega
  · injection h1 with q1 q2 q3; omega
theorem RowV.take {w : World} {la : Option Addr} {n lc : Nat} {l : List El} (h : RowV w (.slice la n lc) l) (p : Nat) (hp : p ≤ l.length) : RowV w (.slice la p lc) (l.take p) := by
  rcases h with ⟨h1, h2⟩ | ⟨g, o, c, h1, h2, h3, h4⟩
  · injection h1 with q1 q2 q3
    subst h2
    obtain rfl : p = 0 := by simpa using hp
    exact .inl ⟨by rw [q1, q3], rfl⟩
  · injection h1 with q1 q2 q3
    have hl : (l.take p).length = p := by simp; omega
    refine .inr ⟨g, o, lc, by rw [q1, hl], by omega, fun h0 => h3 (by omega), fun k hk => ?_⟩
    have hkp : k < p := by omega
    rw [show (l.take p).getD k el0 = l.getD k el0 by simp [List.getD, List.getElem?_take, hkp]]
    exact h4 k (by omega)
theorem RowV.drop {w : World} {la : Option Addr} {n lc : Nat} {l : List El} (h : RowV w (.slice la n lc) l) (hn : l.length = n) (p : Nat) (hp : p ≤ n) : RowV w (.slice (if lc = p then la else la.map (·.add (p * 10))) (n - p) (lc - p)) (l.drop p) := by
  have hcap := h.cap hn
  rcases h with ⟨h1, h2⟩ | ⟨g, o, c, h1, h2, h3, h4⟩
  · injection h1 with q1 q2 q3
    subst q1
    exact .inl ⟨by rw [show n - p = 0 by omega, show lc - p = 0 by omega]; simp, by rw [h2]; simp⟩
  · injection h1 with q1 q2 q3
    subst q1
    have hl : (l.drop p).length = n - p := by simp [hn]
    by_cases hlp : lc = p
    · refine .inr ⟨g, o, lc - p, by rw [if_pos hlp, hl], by omega, fun h0 => by omega, fun k hk => by omega⟩
    · refine .inr ⟨g, o + p * 10, lc - p, by rw [if_neg hlp, hl, Option.map_some, Addr.add_mid], by omega, fun h0 => h3 (by omega), fun k hk => ?_⟩
      rw [show (l.drop p).getD k el0 = l.getD (p + k) el0 by simp [List.getD], show o + p * 10 + k * 10 = o + (p + k) * 10 by omega]
      exact h4 (p + k) (by omega)
/-- What 'c[p:]' is. -/
structure LoV (la : Option Addr) (n lc p : Nat) (la' : Option Addr) (lc' : Nat) : Prop where
  run : ∀ (ev : Operand → Value) (op : Oper) (x y : Operand), op.op = .slice 30 x (some y) none none → ev x = .slice la n lc → ev y = .int .i64 (p : Int) → ∀ w, (execOp ev op).run Try.prog w = .ok (.value (.slice la' (n - p) lc')) w
  row : ∀ w l, RowV w (.slice la n lc) l → l.length = n → RowV w (.slice la' (n - p) lc') (l.drop p)
theorem lo_any (la : Option Addr) (n lc p : Nat) (hp : p ≤ n) : ∃ la' lc', LoV la n lc p la' lc' :=
  ⟨_, _, fun ev op x y ho hx hy w => exec_slice_lo ev op ho la n lc p hx hy hp w, fun w l h hn => h.drop hn p hp⟩
theorem info26p : (Try.prog.info? 30).map (fun i => (i.zero, i.size, i.bytes)) = some (some (.slice none 0 0), 1, 24) := by kernel_rfl
theorem build3 (a1 a2 a3 : Option Addr) (n1 n2 n3 c1 c2 c3 : Nat) (w : World) : (Instr.buildSlice 79 3 #[(0, .slice a1 n1 c1), (1, .slice a2 n2 c2), (2, .slice a3 n3 c3)]).run Try.prog w = .ok (.slice (some ⟨w.heap.size, 0, none⟩) 3 3) (w.alloc (.cells #[.slice a1 n1 c1, .slice a2 n2 c2, .slice a3 n3 c3] 30)) := by
  obtain ⟨i0, hi, hz0, hz1, hz2⟩ := info_parts info26p
  refine run_buildSlice (P := Try.prog) w 79 30 3 _ _ i0 _ Try.underlying79 hi hz0 (by rw [hz1]; decide) (by rw [hz1]; decide) ?_
  rw [hz1]
  kernel_rfl
theorem build2 (a1 a2 : Option Addr) (n1 n2 c1 c2 : Nat) (w : World) : (Instr.buildSlice 79 2 #[(0, .slice a1 n1 c1), (1, .slice a2 n2 c2)]).run Try.prog w = .ok (.slice (some ⟨w.heap.size, 0, none⟩) 2 2) (w.alloc (.cells #[.slice a1 n1 c1, .slice a2 n2 c2] 30)) := by
  obtain ⟨i0, hi, hz0, hz1, hz2⟩ := info_parts info26p
  refine run_buildSlice (P := Try.prog) w 79 30 2 _ _ i0 _ Try.underlying79 hi hz0 (by rw [hz1]; decide) (by rw [hz1]; decide) ?_
  rw [hz1]
  kernel_rfl
theorem exec_build3 (ev : Operand → Value) (op : Oper) (x y z : Operand) (ho : op.op = .buildSlice 79 3 #[(0, x), (1, y), (2, z)]) (a1 a2 a3 : Option Addr) (n1 n2 n3 c1 c2 c3 : Nat) (hx : ev x = .slice a1 n1 c1) (hy : ev y = .slice a2 n2 c2) (hz : ev z = .slice a3 n3 c3) (w : World) : (execOp ev op).run Try.prog w = .ok (.value (.slice (some ⟨w.heap.size, 0, none⟩) 3 3)) (w.alloc (.cells #[.slice a1 n1 c1, .slice a2 n2 c2, .slice a3 n3 c3] 30)) := by
  unfold execOp
  simp only [ho, List.map_toArray, List.map_cons, List.map_nil, hx, hy, hz, Sem.run_bind, Sem.run_pure, build3, Result.andThen_ok]
theorem exec_build2 (ev : Operand → Value) (op : Oper) (x y : Operand) (ho : op.op = .buildSlice 79 2 #[(0, x), (1, y)]) (a1 a2 : Option Addr) (n1 n2 c1 c2 : Nat) (hx : ev x = .slice a1 n1 c1) (hy : ev y = .slice a2 n2 c2) (w : World) : (execOp ev op).run Try.prog w = .ok (.value (.slice (some ⟨w.heap.size, 0, none⟩) 2 2)) (w.alloc (.cells #[.slice a1 n1 c1, .slice a2 n2 c2] 30)) := by
  unfold execOp
  simp only [ho, List.map_toArray, List.map_cons, List.map_nil, hx, hy, Sem.run_bind, Sem.run_pure, build2, Result.andThen_ok]
theorem many3 {w w' : World} {T : TypeId} {v1 v2 v3 : Value} {l1 l2 l3 : List El} (hb : Box w w' T [v1, v2, v3]) (h1 : RowV w v1 l1) (h2 : RowV w v2 l2) (h3 : RowV w v3 l3) : ManyV w' w.heap.size (fun k => ([v1, v2, v3] : List Value).getD k undef) [l1, l2, l3] := by
  refine ⟨by rw [hb.size]; omega, fun k hk => ?_, fun k hk => ?_⟩
  · have hk : k < 3 := by simpa using hk
    refine hb.cell k _ ?_
    simp [List.getD, hk]
  · have hk : k < 3 := by simpa using hk
    rcases (by omega : k = 0 ∨ k = 1 ∨ k = 2) with rfl | rfl | rfl
    · exact h1.turn hb.turn (fun _ _ => id)
    · exact h2.turn hb.turn (fun _ _ => id)
    · exact h3.turn hb.turn (fun _ _ => id)
theorem many2 {w w' : World} {T : TypeId} {v1 v2 : Value} {l1 l2 : List El} (hb : Box w w' T [v1, v2]) (h1 : RowV w v1 l1) (h2 : RowV w v2 l2) : ManyV w' w.heap.size (fun k => ([v1, v2] : List Value).getD k undef) [l1, l2] := by
  refine ⟨by rw [hb.size]; omega, fun k hk => ?_, fun k hk => ?_⟩
  · have hk : k < 2 := by simpa using hk
    refine hb.cell k _ ?_
    simp [List.getD, hk]
  · have hk : k < 2 := by simpa using hk
    rcases (by omega : k = 0 ∨ k = 1) with rfl | rfl
    · exact h1.turn hb.turn (fun _ _ => id)
    · exact h2.turn hb.turn (fun _ _ => id)
/-- A chart with an element; without one. -/
def putE (l : List El) (e : El) : List El := l.filter (fun x => decide (x.id < e.id)) ++ e :: l.filter (fun x => decide (e.id < x.id))
def dropE (l : List El) (nr : Int) : List El := l.filter (fun x => !decide (x.id = nr))
theorem mem_take_at {l : List El} {p : Nat} {x : El} (h : x ∈ l.take p) : ∃ k, k < p ∧ k < l.length ∧ l.getD k el0 = x := by
  obtain ⟨i, hi, rfl⟩ := List.getElem_of_mem h
  have h2 : i < p ∧ i < l.length := by rw [List.length_take] at hi; omega
  exact ⟨i, h2.1, h2.2, by simp [List.getD, h2.2]⟩
theorem mem_drop_at {l : List El} {p : Nat} {x : El} (h : x ∈ l.drop p) : ∃ k, p ≤ k ∧ k < l.length ∧ l.getD k el0 = x := by
  obtain ⟨i, hi, rfl⟩ := List.getElem_of_mem h
  have h2 : p + i < l.length := by simp at hi; omega
  exact ⟨p + i, by omega, h2, by simp [List.getD, h2]⟩
theorem IsPlace.less {l : List El} {nr : Int} {p : Nat} (h : IsPlace l nr p) : l.filter (fun x => decide (x.id < nr)) = l.take p := by
  conv => lhs; rw [← List.take_append_drop p l]
  rw [List.filter_append, List.filter_eq_self.2, List.filter_eq_nil_iff.2, List.append_nil]
  · intro x hx
    obtain ⟨k, h1, h2, rfl⟩ := mem_drop_at hx
    have := h.hi k h1 h2
    simp only [decide_eq_true_eq]; omega
  · intro x hx
    obtain ⟨k, h1, h2, rfl⟩ := mem_take_at hx
    simpa using h.lo k h1
theorem IsPlace.more {l : List El} {nr : Int} {p : Nat} (h : IsPlace l nr p) (hr : Rises l) : l.filter (fun x => decide (nr < x.id)) = if thereB l nr p = true then l.drop (p + 1) else l.drop p := by
  have hlow : ∀ x ∈ l.take p, ¬ (decide (nr < x.id) = true) := fun x hx => by
    obtain ⟨k, h1, h2, rfl⟩ := mem_take_at hx
    have := h.lo k h1
    simp only [decide_eq_true_eq]; omega
  conv => lhs; rw [← List.take_append_drop p l]
  rw [List.filter_append, List.filter_eq_nil_iff.2 hlow, List.nil_append]
  unfold thereB
  by_cases ht : p < l.length ∧ (l.getD p el0).id = nr
  · rw [if_pos (by simpa using ht), List.drop_eq_getElem_cons ht.1, List.filter_cons_of_neg, List.filter_eq_self.2]
    · intro x hx
      obtain ⟨k, h1, h2, rfl⟩ := mem_drop_at hx
      have := hr.get (i := p) (j := k) (by omega) h2
      simp only [decide_eq_true_eq]
      omega
    · have e : l[p]'ht.1 = l.getD p el0 := by simp [List.getD, ht.1]
      rw [e]
      simp only [decide_eq_true_eq]
      omega
  · rw [if_neg (by simpa using ht), List.filter_eq_self.2]
    intro x hx
    obtain ⟨k, h1, h2, rfl⟩ := mem_drop_at hx
    have h3 := h.hi k h1 h2
    simp only [decide_eq_true_eq]
    by_cases e : k = p
    · subst e
      have : (l.getD k el0).id ≠ nr := fun e => ht ⟨h2, e⟩
      omega
    · have h4 := hr.get (i := p) (j := k) (by omega) h2
      have h5 := h.hi p (Nat.le_refl _) (by omega)
      omega
theorem dropE_split (l : List El) (nr : Int) (hr : Rises l) {p : Nat} (h : IsPlace l nr p) : dropE l nr = l.take p ++ if thereB l nr p = true then l.drop (p + 1) else l.drop p := by
  rw [← h.more hr]
  unfold dropE
  conv => lhs; rw [← List.take_append_drop p l]
  rw [List.filter_append]
  congr 1
  · rw [List.filter_eq_self]
    intro x hx
    obtain ⟨k, h1, h2, rfl⟩ := mem_take_at hx
    have := h.lo k h1
    simp only [Bool.not_eq_true', decide_eq_false_iff_not]; omega
  · have hlow : ∀ x ∈ l.take p, ¬ (decide (nr < x.id) = true) := fun x hx => by
      obtain ⟨k, h1, h2, rfl⟩ := mem_take_at hx
      have := h.lo k h1
      simp only [decide_eq_true_eq]; omega
    conv => rhs; rw [← List.take_append_drop p l]
    rw [List.filter_append, List.filter_eq_nil_iff.2 hlow, List.nil_append]
    apply List.filter_congr
    intro x hx
    obtain ⟨k, h1, h2, rfl⟩ := mem_drop_at hx
    have := h.hi k h1 h2
    rw [Bool.eq_iff_iff]
    simp only [Bool.not_eq_true', decide_eq_false_iff_not, decide_eq_true_eq]; omega
theorem IsPlace.put {l : List El} {e : El} {p : Nat} (h : IsPlace l e.id p) (hr : Rises l) : putE l e = [l.take p, [e], if thereB l e.id p = true then l.drop (p + 1) else l.drop p].flatten := by
  unfold putE
  rw [h.less, h.more hr]
  simp

theorem own_base {w : World} {b b' : Nat} {v : Value} {n : Nat} {xs : List Value} (h : w.ownsRow b 24 10 v n xs) (hb : b' ≤ b) : w.ownsRow b' 24 10 v n xs := by
  refine ⟨h.1, ?_⟩
  rcases h.2 with h | ⟨g, cap, cur, h1, h2, h3⟩
  · exact .inl h
  · exact .inr ⟨g, cap, cur, h1, Nat.le_trans hb h2, h3⟩

set_option maxHeartbeats 1600000 in
theorem put_any (w : World) (v : Value) (l : List El) (e : El) (hv : RowV w v l) (hr : Rises l) (hb : l.length ≤ 1000) : Calls Try.prog 27 #[v, .agg e.vals.toArray] w (NewEls w (putE l e)) := by
  obtain ⟨la, lc, rfl⟩ := hv.form
  obtain ⟨n, hn⟩ : ∃ n, l.length = n := ⟨_, rfl⟩
  rw [hn] at hv hb
  simp only [hn]
  have hbx := box_alloc w 24 e.vals
  obtain ⟨w1, hw1⟩ : ∃ w1, w.alloc (.cells e.vals.toArray 24) = w1 := ⟨_, rfl⟩
  rw [hw1] at hbx
  have c0 := hbx.cell 0 _ e.v0
  have hcap := hv.cap hn
  have HB := Lib.hid hbx
  have HV := Lib.hid hv
  have HN := Lib.hid hn
  have HR := Lib.hid hr
  clear hbx hv hn hr
  go_enter Try.func27, Try.ntmps27
  go_wp2_with fail
  clear hw1
  refine (place_any w1 _ l e.id (HV.out.turn HB.out.turn (fun _ _ => id)) HR.out (by rw [HN.out]; omega)).mono ?_
  rintro r w2 ⟨p, hp, rfl, t2⟩
  have hpn : p ≤ n := by rw [← HN.out]; exact hp.le
  have HPL := Lib.hid (hp.put HR.out)
  have HTB : Hid (thereB l e.id p = true → p < n) := fun h => by
    unfold thereB at h
    rw [← HN.out]
    exact (of_decide_eq_true h).1
  have HT2 := Lib.hid (HB.out.turn.trans t2 (fun _ _ => id))
  have HY := Lib.hid (rangeAt_turn (HB.out.range) t2 (fun h => h))
  have HV2 := Lib.hid (HV.out.turn HT2.out (fun _ _ => id))
  obtain ⟨la1, lc1, hlo1⟩ := lo_any la n lc p hpn
  clear t2 hp c0
  cases hth : thereB l e.id p
  · have HTH := Lib.hid hth
    clear hth
    go_wp2_with (with_reducible (show wpList _ _ _ (Oper.mk (some 17) (.slice 30 _ _ _ _) _ _ _ _ :: _) _ _); refine still ?_)
    refine list_exec rfl _ _ (hlo1.run _ _ (.tmp 15) (.tmp 16) rfl rfl rfl _) ?_
    have HD := Lib.hid (hlo1.row w2 l HV2.out HN.out)
    go_wp2_with fail
    refine wp_region_held_drew (S := fun wq => wq.rangeAt w.heap.size 0 e.vals) (by kernel_rfl) HY.out (fun hHeld => ?_)
    refine wpAnyH_take (i := 0) (v := .slice la n lc) rfl (by kernel_rfl) (by kernel_rfl) (by kernel_rfl) (fun _ _ _ h => h) (Or.inl ⟨by rfl, ?yq1⟩) (by assumption) ?rq1
    case yq1 => (intro wq hSw; (try simp only [List.getElem_toArray, List.getElem_cons_zero, List.getElem_cons_succ]); go_simp; (try with_reducible rfl); all_goals (try omega))
    case rq1 =>
    try simp only [Act.put, List.setIfInBounds_toArray, List.set_cons_zero, List.set_cons_succ, List.getElem_toArray, List.getElem_cons_zero, List.getElem_cons_succ]
    refine wpAnyH_take (i := 1) (v := .int .i64 (p : Int)) rfl (by kernel_rfl) (by kernel_rfl) (by kernel_rfl) (fun _ _ _ h => h) (Or.inl ⟨by rfl, ?yq2⟩) (by assumption) ?rq2
    case yq2 => (intro wq hSw; (try simp only [List.getElem_toArray, List.getElem_cons_zero, List.getElem_cons_succ]); go_simp; (try with_reducible rfl); all_goals (try omega))
    case rq2 =>
    try simp only [Act.put, List.setIfInBounds_toArray, List.set_cons_zero, List.set_cons_succ, List.getElem_toArray, List.getElem_cons_zero, List.getElem_cons_succ]
    refine wpAnyH_take (i := 2) (v := .slice la p lc) rfl (by kernel_rfl) (by kernel_rfl) (by kernel_rfl) (fun _ _ _ h => h) (Or.inl ⟨by rfl, ?yq3⟩) (by assumption) ?rq3
    case yq3 => (intro wq hSw; exact exec_slice_hi _ _ rfl la n lc p rfl rfl (by omega) wq)
    case rq3 =>
    try simp only [Act.put, List.setIfInBounds_toArray, List.set_cons_zero, List.set_cons_succ, List.getElem_toArray, List.getElem_cons_zero, List.getElem_cons_succ]
    refine wpAnyH_take (i := 3) (v := .agg e.vals.toArray) rfl (by kernel_rfl) (by kernel_rfl) (by kernel_rfl) (fun _ _ _ h => h) (Or.inl ⟨by rfl, ?yq4⟩) (by assumption) ?rq4
    case yq4 => (intro wq hSw; exact exec_load_mid _ _ 24 _ rfl w.heap.size 0 rfl e.vals _ _ hSw Try.underlying24 rfl el_info)
    case rq4 =>
    try simp only [Act.put, List.setIfInBounds_toArray, List.set_cons_zero, List.set_cons_succ, List.getElem_toArray, List.getElem_cons_zero, List.getElem_cons_succ]
    refine wpAnyH_take (i := 5) (v := .slice la1 (n - p) lc1) rfl (by kernel_rfl) (by kernel_rfl) (by kernel_rfl) (fun _ _ _ h => h) (Or.inl ⟨by rfl, ?yq5⟩) (by assumption) ?rq5
    case yq5 => (intro wq hSw; (try simp only [List.getElem_toArray, List.getElem_cons_zero, List.getElem_cons_succ]); go_simp; (try with_reducible rfl); all_goals (try omega))
    case rq5 =>
    try simp only [Act.put, List.setIfInBounds_toArray, List.set_cons_zero, List.set_cons_succ, List.getElem_toArray, List.getElem_cons_zero, List.getElem_cons_succ]
    have hb1 := box_alloc w2.drew 24 e.vals
    have hone := one_rowV (w := w2.drew) e
    obtain ⟨w3, hw3⟩ : ∃ w3, w2.drew.alloc (.cells e.vals.toArray 24) = w3 := ⟨_, rfl⟩
    have hx1 : ∀ ev op y, op.op = .buildSlice 30 1 #[(0, y)] → ev y = .agg e.vals.toArray → (execOp ev op).run Try.prog w2.drew = .ok (.value (.slice (some ⟨w2.drew.heap.size, 0, none⟩) 1 1)) w3 := fun ev op y ho hy => by rw [← hw3]; exact exec_build_one ev op y 30 Try.underlying30 ho e hy _
    rw [hw3] at hb1 hone
    have hb3 := box_alloc w3 30 [.slice la p lc, .slice (some ⟨w2.drew.heap.size, 0, none⟩) 1 1, .slice la1 (n - p) lc1]
    obtain ⟨w4, hw4⟩ : ∃ w4, w3.alloc (.cells #[.slice la p lc, .slice (some ⟨w2.drew.heap.size, 0, none⟩) 1 1, .slice la1 (n - p) lc1] 30) = w4 := ⟨_, rfl⟩
    have hx3 : ∀ ev op x y z, op.op = .buildSlice 79 3 #[(0, x), (1, y), (2, z)] → ev x = .slice la p lc → ev y = .slice (some ⟨w2.drew.heap.size, 0, none⟩) 1 1 → ev z = .slice la1 (n - p) lc1 → (execOp ev op).run Try.prog w3 = .ok (.value (.slice (some ⟨w3.heap.size, 0, none⟩) 3 3)) w4 := fun ev op x y z ho h1 h2 h3 => by rw [← hw4]; exact exec_build3 ev op x y z ho _ _ _ _ _ _ _ _ _ h1 h2 h3 _
    rw [hw4] at hb3
    have t23 : Turn (fun _ => False) w2 w3 := (Turn.refl _ w2).drew.trans hb1.turn (fun _ _ => id)
    have t24 : Turn (fun _ => False) w2 w4 := t23.trans hb3.turn (fun _ _ => id)
    have hmany := many3 hb3 ((HV2.out.turn t23 (fun _ _ => id)).take p (by rw [HN.out]; exact hpn)) hone (HD.out.turn t23 (fun _ _ => id))
    have HMANY := Lib.hid hmany
    have HT23 := Lib.hid t23
    have HT24 := Lib.hid t24
    have HX1 := Lib.hid hx1
    have HX3 := Lib.hid hx3
    clear hb1 hone hb3 hw3 hw4 hx1 hx3 hmany t23 t24
    refine wpAnyH_ready (rs := [4]) (by kernel_rfl) (by simp) ?_
    refine AllReadyH.cons rfl (fun K hK => ?_) AllReadyH.nil
    rw [if_pos (by rfl)]
    refine wp_exec (HX1.out _ _ (.tmp 24) rfl rfl) ?_
    refine hK.out _ _ (rangeAt_turn HY.out HT23.out id) (fun _ => ?_)
    clear hK K
    try simp only [Act.put, List.setIfInBounds_toArray, List.set_cons_zero, List.set_cons_succ, List.getElem_toArray, List.getElem_cons_zero, List.getElem_cons_succ]
    refine wpAnyH_ready (rs := [6]) (by kernel_rfl) (by simp) ?_
    refine AllReadyH.cons rfl (fun K hK => ?_) AllReadyH.nil
    rw [if_pos (by rfl)]
    refine wp_exec (HX3.out _ _ (.tmp 23) (.tmp 25) (.tmp 26) rfl rfl rfl rfl) ?_
    refine hK.out _ _ (rangeAt_turn HY.out HT24.out id) (fun _ => ?_)
    clear hK K
    try simp only [Act.put, List.setIfInBounds_toArray, List.set_cons_zero, List.set_cons_succ, List.getElem_toArray, List.getElem_cons_zero, List.getElem_cons_succ]
    refine wpAnyH_ready (rs := [7]) (by kernel_rfl) (by simp) ?_
    refine AllReadyH.cons rfl (fun K hK => ?_) AllReadyH.nil
    go_simp
    refine (concat_els w4 w3.heap.size 3 _ [l.take p, [e], (l.drop p)] 3 rfl (Nat.le_refl _) HMANY.out (by omega) (by have := HN.out; simp [sumL]; omega)).mono ?_
    rintro r w5 ⟨v5, rfl, ho5, t5⟩
    have HO5 := Lib.hid ho5
    have HT5 := Lib.hid (HT24.out.trans t5 (fun _ _ => id))
    clear ho5 t5
    refine hK.out _ _ (rangeAt_turn HY.out HT5.out id) (fun _ => ?_)
    clear hK K
    try simp only [Act.put, List.setIfInBounds_toArray, List.set_cons_zero, List.set_cons_succ, List.getElem_toArray, List.getElem_cons_zero, List.getElem_cons_succ]
    refine wpAnyH_take (i := 8) (v := v5) rfl (by kernel_rfl) (by kernel_rfl) (by kernel_rfl) (fun _ _ _ h => h) (Or.inl ⟨by rfl, ?yq6⟩) (by assumption) ?rq6
    case yq6 => (intro wq hSw; (try simp only [List.getElem_toArray, List.getElem_cons_zero, List.getElem_cons_succ]); go_simp; (try with_reducible rfl); all_goals (try omega))
    case rq6 =>
    try simp only [Act.put, List.setIfInBounds_toArray, List.set_cons_zero, List.set_cons_succ, List.getElem_toArray, List.getElem_cons_zero, List.getElem_cons_succ]
    refine wpAnyH_done (by kernel_rfl) ?_ _
    clear hHeld
    obtain ⟨a5, c5, hv5⟩ := own_slice24 HO5.out
    subst hv5
    go_wp2_with fail
    go_ret
    refine ⟨_, rfl, ?_, HT2.out.trans HT5.out (fun _ _ => id)⟩
    rw [HPL.out, HTH.out]
    exact own_base HO5.out (Nat.le_trans HT2.out.size HT24.out.size)
  · have HTH := Lib.hid hth
    clear hth
    go_wp2_with (with_reducible (show wpList _ _ _ (Oper.mk (some 17) (.slice 30 _ _ _ _) _ _ _ _ :: _) _ _); refine still ?_)
    refine list_exec rfl _ _ (hlo1.run _ _ (.tmp 15) (.tmp 16) rfl rfl rfl _) ?_
    have hp1 := HTB.out HTH.out
    obtain ⟨la2, lc2, hlo2⟩ := lo_any la1 (n - p) lc1 1 (by omega)
    go_wp2_with (with_reducible (show wpList _ _ _ (Oper.mk (some 20) (.slice 30 _ _ _ _) _ _ _ _ :: _) _ _); refine still ?_)
    refine list_exec rfl _ _ (hlo2.run _ _ (.tmp 19) (.const (.int .i64 1)) rfl rfl rfl _) ?_
    have HD := Lib.hid (show RowV w2 (.slice la2 (n - p - 1) lc2) (l.drop (p + 1)) from by
      have h1 := hlo2.row w2 _ (hlo1.row w2 l HV2.out HN.out) (by rw [List.length_drop, HN.out])
      rwa [List.drop_drop] at h1)
    go_wp2_with fail
    refine wp_region_held_drew (S := fun wq => wq.rangeAt w.heap.size 0 e.vals) (by kernel_rfl) HY.out (fun hHeld => ?_)
    refine wpAnyH_take (i := 0) (v := .slice la n lc) rfl (by kernel_rfl) (by kernel_rfl) (by kernel_rfl) (fun _ _ _ h => h) (Or.inl ⟨by rfl, ?yq7⟩) (by assumption) ?rq7
    case yq7 => (intro wq hSw; (try simp only [List.getElem_toArray, List.getElem_cons_zero, List.getElem_cons_succ]); go_simp; (try with_reducible rfl); all_goals (try omega))
    case rq7 =>
    try simp only [Act.put, List.setIfInBounds_toArray, List.set_cons_zero, List.set_cons_succ, List.getElem_toArray, List.getElem_cons_zero, List.getElem_cons_succ]
    refine wpAnyH_take (i := 1) (v := .int .i64 (p : Int)) rfl (by kernel_rfl) (by kernel_rfl) (by kernel_rfl) (fun _ _ _ h => h) (Or.inl ⟨by rfl, ?yq8⟩) (by assumption) ?rq8
    case yq8 => (intro wq hSw; (try simp only [List.getElem_toArray, List.getElem_cons_zero, List.getElem_cons_succ]); go_simp; (try with_reducible rfl); all_goals (try omega))
    case rq8 =>
    try simp only [Act.put, List.setIfInBounds_toArray, List.set_cons_zero, List.set_cons_succ, List.getElem_toArray, List.getElem_cons_zero, List.getElem_cons_succ]
    refine wpAnyH_take (i := 2) (v := .slice la p lc) rfl (by kernel_rfl) (by kernel_rfl) (by kernel_rfl) (fun _ _ _ h => h) (Or.inl ⟨by rfl, ?yq9⟩) (by assumption) ?rq9
    case yq9 => (intro wq hSw; exact exec_slice_hi _ _ rfl la n lc p rfl rfl (by omega) wq)
    case rq9 =>
    try simp only [Act.put, List.setIfInBounds_toArray, List.set_cons_zero, List.set_cons_succ, List.getElem_toArray, List.getElem_cons_zero, List.getElem_cons_succ]
    refine wpAnyH_take (i := 3) (v := .agg e.vals.toArray) rfl (by kernel_rfl) (by kernel_rfl) (by kernel_rfl) (fun _ _ _ h => h) (Or.inl ⟨by rfl, ?yq10⟩) (by assumption) ?rq10
    case yq10 => (intro wq hSw; exact exec_load_mid _ _ 24 _ rfl w.heap.size 0 rfl e.vals _ _ hSw Try.underlying24 rfl el_info)
    case rq10 =>
    try simp only [Act.put, List.setIfInBounds_toArray, List.set_cons_zero, List.set_cons_succ, List.getElem_toArray, List.getElem_cons_zero, List.getElem_cons_succ]
    refine wpAnyH_take (i := 5) (v := .slice la2 (n - p - 1) lc2) rfl (by kernel_rfl) (by kernel_rfl) (by kernel_rfl) (fun _ _ _ h => h) (Or.inl ⟨by rfl, ?yq11⟩) (by assumption) ?rq11
    case yq11 => (intro wq hSw; (try simp only [List.getElem_toArray, List.getElem_cons_zero, List.getElem_cons_succ]); go_simp; (try with_reducible rfl); all_goals (try omega))
    case rq11 =>
    try simp only [Act.put, List.setIfInBounds_toArray, List.set_cons_zero, List.set_cons_succ, List.getElem_toArray, List.getElem_cons_zero, List.getElem_cons_succ]
    have hb1 := box_alloc w2.drew 24 e.vals
    have hone := one_rowV (w := w2.drew) e
    obtain ⟨w3, hw3⟩ : ∃ w3, w2.drew.alloc (.cells e.vals.toArray 24) = w3 := ⟨_, rfl⟩
    have hx1 : ∀ ev op y, op.op = .buildSlice 30 1 #[(0, y)] → ev y = .agg e.vals.toArray → (execOp ev op).run Try.prog w2.drew = .ok (.value (.slice (some ⟨w2.drew.heap.size, 0, none⟩) 1 1)) w3 := fun ev op y ho hy => by rw [← hw3]; exact exec_build_one ev op y 30 Try.underlying30 ho e hy _
    rw [hw3] at hb1 hone
    have hb3 := box_alloc w3 30 [.slice la p lc, .slice (some ⟨w2.drew.heap.size, 0, none⟩) 1 1, .slice la2 (n - p - 1) lc2]
    obtain ⟨w4, hw4⟩ : ∃ w4, w3.alloc (.cells #[.slice la p lc, .slice (some ⟨w2.drew.heap.size, 0, none⟩) 1 1, .slice la2 (n - p - 1) lc2] 30) = w4 := ⟨_, rfl⟩
    have hx3 : ∀ ev op x y z, op.op = .buildSlice 79 3 #[(0, x), (1, y), (2, z)] → ev x = .slice la p lc → ev y = .slice (some ⟨w2.drew.heap.size, 0, none⟩) 1 1 → ev z = .slice la2 (n - p - 1) lc2 → (execOp ev op).run Try.prog w3 = .ok (.value (.slice (some ⟨w3.heap.size, 0, none⟩) 3 3)) w4 := fun ev op x y z ho h1 h2 h3 => by rw [← hw4]; exact exec_build3 ev op x y z ho _ _ _ _ _ _ _ _ _ h1 h2 h3 _
    rw [hw4] at hb3
    have t23 : Turn (fun _ => False) w2 w3 := (Turn.refl _ w2).drew.trans hb1.turn (fun _ _ => id)
    have t24 : Turn (fun _ => False) w2 w4 := t23.trans hb3.turn (fun _ _ => id)
    have hmany := many3 hb3 ((HV2.out.turn t23 (fun _ _ => id)).take p (by rw [HN.out]; exact hpn)) hone (HD.out.turn t23 (fun _ _ => id))
    have HMANY := Lib.hid hmany
    have HT23 := Lib.hid t23
    have HT24 := Lib.hid t24
    have HX1 := Lib.hid hx1
    have HX3 := Lib.hid hx3
    clear hb1 hone hb3 hw3 hw4 hx1 hx3 hmany t23 t24
    refine wpAnyH_ready (rs := [4]) (by kernel_rfl) (by simp) ?_
    refine AllReadyH.cons rfl (fun K hK => ?_) AllReadyH.nil
    rw [if_pos (by rfl)]
    refine wp_exec (HX1.out _ _ (.tmp 24) rfl rfl) ?_
    refine hK.out _ _ (rangeAt_turn HY.out HT23.out id) (fun _ => ?_)
    clear hK K
    try simp only [Act.put, List.setIfInBounds_toArray, List.set_cons_zero, List.set_cons_succ, List.getElem_toArray, List.getElem_cons_zero, List.getElem_cons_succ]
    refine wpAnyH_ready (rs := [6]) (by kernel_rfl) (by simp) ?_
    refine AllReadyH.cons rfl (fun K hK => ?_) AllReadyH.nil
    rw [if_pos (by rfl)]
    refine wp_exec (HX3.out _ _ (.tmp 23) (.tmp 25) (.tmp 26) rfl rfl rfl rfl) ?_
    refine hK.out _ _ (rangeAt_turn HY.out HT24.out id) (fun _ => ?_)
    clear hK K
    try simp only [Act.put, List.setIfInBounds_toArray, List.set_cons_zero, List.set_cons_succ, List.getElem_toArray, List.getElem_cons_zero, List.getElem_cons_succ]
    refine wpAnyH_ready (rs := [7]) (by kernel_rfl) (by simp) ?_
    refine AllReadyH.cons rfl (fun K hK => ?_) AllReadyH.nil
    go_simp
    refine (concat_els w4 w3.heap.size 3 _ [l.take p, [e], (l.drop (p + 1))] 3 rfl (Nat.le_refl _) HMANY.out (by omega) (by have := HN.out; simp [sumL]; omega)).mono ?_
    rintro r w5 ⟨v5, rfl, ho5, t5⟩
    have HO5 := Lib.hid ho5
    have HT5 := Lib.hid (HT24.out.trans t5 (fun _ _ => id))
    clear ho5 t5
    refine hK.out _ _ (rangeAt_turn HY.out HT5.out id) (fun _ => ?_)
    clear hK K
    try simp only [Act.put, List.setIfInBounds_toArray, List.set_cons_zero, List.set_cons_succ, List.getElem_toArray, List.getElem_cons_zero, List.getElem_cons_succ]
    refine wpAnyH_take (i := 8) (v := v5) rfl (by kernel_rfl) (by kernel_rfl) (by kernel_rfl) (fun _ _ _ h => h) (Or.inl ⟨by rfl, ?yq12⟩) (by assumption) ?rq12
    case yq12 => (intro wq hSw; (try simp only [List.getElem_toArray, List.getElem_cons_zero, List.getElem_cons_succ]); go_simp; (try with_reducible rfl); all_goals (try omega))
    case rq12 =>
    try simp only [Act.put, List.setIfInBounds_toArray, List.set_cons_zero, List.set_cons_succ, List.getElem_toArray, List.getElem_cons_zero, List.getElem_cons_succ]
    refine wpAnyH_done (by kernel_rfl) ?_ _
    clear hHeld
    obtain ⟨a5, c5, hv5⟩ := own_slice24 HO5.out
    subst hv5
    go_wp2_with fail
    go_ret
    refine ⟨_, rfl, ?_, HT2.out.trans HT5.out (fun _ _ => id)⟩
    rw [HPL.out, HTH.out]
    exact own_base HO5.out (Nat.le_trans HT2.out.size HT24.out.size)
end Go.Proofs.Ytbokdgcdkmnldaa
