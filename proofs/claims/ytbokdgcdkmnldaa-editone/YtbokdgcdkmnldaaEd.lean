/- Own contracts: rows of edits. No statement is proved here. -/
import Derived.Test.YtbokdgcdkmnldaaEp
namespace Go.Proofs.Ytbokdgcdkmnldaa
set_option maxRecDepth 100000
open Go.RowKit
set_option linter.unusedVariables false
set_option linter.unusedSimpArgs false

theorem elsV_single (a : El) : elsV [a] = a.vals := by simp [elsV]
theorem own_cells {w : World} {g : Nat} {l : List El} {ex : List Value} (h : w.heap[g]? = some (.cells (elsV l ++ ex).toArray 24 (0, 0))) (k : Nat) (hk : k < l.length) : w.rangeAt g (0 + k * 10) (l.getD k el0).vals := fun j v hj => by
  have hv := elsV_len l
  rw [cell_of_row w g _ _ 24 (0, 0) h]
  rw [← elsV_part l k hk, List.getElem?_take] at hj
  split at hj
  · rename_i h34
    rw [List.getElem?_drop] at hj
    have hl := (List.getElem?_eq_some_iff.1 hj).1
    simp only [List.getElem?_toArray]
    rw [List.getElem?_append_left (by omega), Nat.zero_add]
    exact hj
  · cases hj
theorem own_rowV {w : World} {base : Nat} {v : Value} {l : List El} (h : w.ownsRow base 24 10 v l.length (elsV l)) : RowV w v l := by
  rcases h.2 with ⟨rfl, h0⟩ | ⟨g, cap, cur, rfl, _, hg, hnc, _, hcs, ht⟩
  · exact .inl ⟨rfl, List.eq_nil_of_length_eq_zero h0⟩
  · have hg' : w.heap[g]? = some (.cells (elsV l ++ cur.toList.drop (l.length * 10)).toArray 24 (0, 0)) := by rw [hg, ← ht, List.take_append_drop]
    exact .inr ⟨g, 0, cap, rfl, hnc, fun _ => (Array.getElem?_eq_some_iff.1 hg').1, fun k hk => own_cells hg' k hk⟩
theorem getD_mem {l : List El} {k : Nat} (h : k < l.length) : l.getD k el0 ∈ l := by
  have : l.getD k el0 = l[k] := by simp [List.getD, h]
  rw [this]
  exact List.getElem_mem _
def Ed.vals (x : Ed) : List Value := .int .u8 x.op :: (x.e.vals ++ (.int .i64 x.f :: (vl x.on x.os ++ vl x.nn x.ns)))
def ed0 : Ed := ⟨0, el0, 0, 0, e0, 0, e0⟩
theorem Ed.vlen (x : Ed) : x.vals.length = 16 := rfl
theorem vl_one' (n : Int) (s : ByteArray) : ∀ v ∈ vl n s, v.oneCell' = true := fun v hv => by
  simp only [vl, List.mem_cons, List.not_mem_nil, or_false] at hv
  rcases hv with rfl | rfl <;> rfl
theorem Ed.vals_one (x : Ed) : ∀ v ∈ x.vals, v.oneCell' = true := fun v hv => by
  unfold Ed.vals at hv
  rcases List.mem_cons.1 hv with rfl | hv
  · rfl
  · rcases List.mem_append.1 hv with hv | hv
    · exact x.e.vals_one v hv
    · rcases List.mem_cons.1 hv with rfl | hv
      · rfl
      · rcases List.mem_append.1 hv with hv | hv <;> exact vl_one' _ _ v hv
/-- An edit that is one of the language's. -/
structure Ed.Ok (x : Ed) : Prop where
  op : 0 ≤ x.op ∧ x.op ≤ 255
  e : x.e.Ok
  f : I64 x.f
  on : I64 x.on
  nn : I64 x.nn
def edsV (l : List Ed) : List Value := l.flatMap Ed.vals
theorem edsV_len (l : List Ed) : (edsV l).length = 16 * l.length := by
  induction l with
  | nil => rfl
  | cons o l ih =>
    simp only [edsV, List.flatMap_cons, List.length_append, List.length_cons] at ih ⊢
    rw [ih, o.vlen]; omega
theorem edsV_app (a b : List Ed) : edsV (a ++ b) = edsV a ++ edsV b := by simp [edsV]
theorem edsV_single (a : Ed) : edsV [a] = a.vals := by simp [edsV]
theorem edsV_one (rs : List Ed) : ∀ v ∈ edsV rs, v.oneCell' = true := fun v hv => by
  simp only [edsV, List.mem_flatMap] at hv
  obtain ⟨o, _, h⟩ := hv
  exact o.vals_one v h
theorem edsV_part : ∀ (l : List Ed) (k : Nat), k < l.length → ((edsV l).drop (k * 16)).take 16 = (l.getD k ed0).vals := by
  intro l
  induction l with
  | nil => intro k hk; simp at hk
  | cons o l ih =>
    intro k hk
    have h1 := o.vlen
    cases k with
    | zero =>
      simp only [edsV, List.flatMap_cons, Nat.zero_mul, List.drop_zero, List.getD_cons_zero]
      rw [List.take_append_of_le_length (by omega), List.take_of_length_le (by omega)]
    | succ k =>
      have := ih k (by simpa using hk)
      simp only [edsV, List.flatMap_cons, List.getD_cons_succ] at this ⊢
      rw [← this, List.drop_append, h1, List.drop_of_length_le (by omega), List.nil_append]
      congr 2
      omega
theorem edsV_set : ∀ (l : List Ed) (o : Ed) (k : Nat), k < l.length → edsV (l.set k o) = (edsV l).take (k * 16) ++ o.vals ++ (edsV l).drop (k * 16 + 16) := by
  intro l o
  induction l with
  | nil => intro k hk; simp at hk
  | cons x l ih =>
    intro k hk
    have h1 := x.vlen
    cases k with
    | zero =>
      simp only [List.set_cons_zero, edsV, List.flatMap_cons, Nat.zero_mul, List.take_zero, List.nil_append, Nat.zero_add]
      rw [List.drop_append, List.drop_of_length_le (by omega), h1]
      simp
    | succ k =>
      have := ih k (by simpa using hk)
      simp only [List.set_cons_succ, edsV, List.flatMap_cons] at this ⊢
      rw [this, List.take_append, List.drop_append, h1, List.take_of_length_le (show x.vals.length ≤ (k + 1) * 16 by omega), List.drop_of_length_le (show x.vals.length ≤ (k + 1) * 16 + 16 by omega)]
      rw [show (k + 1) * 16 - 16 = k * 16 by omega, show (k + 1) * 16 + 16 - 16 = k * 16 + 16 by omega]
      simp
theorem ed_info : (Try.prog.info? 28).map (·.size) = some 16 := by kernel_rfl
theorem ed_infop : (Try.prog.info? 28).map (fun i => (i.zero, i.size, i.bytes)) = some (some (.agg ed0.vals.toArray), 16, 176) := by kernel_rfl
theorem ed_zero (w : World) : (zeroValue 28).run Try.prog w = .ok (.agg ed0.vals.toArray) w := by kernel_rfl
/-- A row of elements as a value. -/
def EdV (w : World) (v : Value) (l : List Ed) : Prop :=
  (v = .slice none 0 0 ∧ l = []) ∨ ∃ g o c, v = .slice (some ⟨g, o, none⟩) l.length c ∧ l.length ≤ c ∧ (0 < l.length → g < w.heap.size) ∧ ∀ k, k < l.length → w.rangeAt g (o + k * 16) (l.getD k ed0).vals
theorem EdV.turn {w w' : World} {v : Value} {l : List Ed} {G : Nat → Prop} (h : EdV w v l) (t : Turn G w w') (hn : ∀ q, v.ownBlock = some q → ¬ G q) : EdV w' v l := by
  rcases h with ⟨h1, h2⟩ | ⟨g, o, c, h1, h2, h3, h4⟩
  · exact .inl ⟨h1, h2⟩
  · exact .inr ⟨g, o, c, h1, h2, fun h0 => Nat.lt_of_lt_of_le (h3 h0) t.size, fun k hk => rangeAt_turn (h4 k hk) t (hn g (by rw [h1]; rfl))⟩
theorem EdV.form {w : World} {v : Value} {l : List Ed} (h : EdV w v l) : ∃ a c, v = .slice a l.length c := by
  rcases h with ⟨h1, rfl⟩ | ⟨g, o, c, h1, _⟩
  · exact ⟨_, _, h1⟩
  · exact ⟨_, _, h1⟩
theorem EdV.one {w : World} {a : Option Addr} {n c : Nat} {l : List Ed} (h : EdV w (.slice a n c) l) (hn : l.length = n) (k : Nat) (hk : k < n) : ∃ g o, a = some ⟨g, o, none⟩ ∧ n ≤ c ∧ w.rangeAt g (o + k * 16) (l.getD k ed0).vals := by
  subst hn
  rcases h with ⟨h1, rfl⟩ | ⟨g, o, c', h1, h2, h3, h4⟩
  · simp at hk
  · injection h1 with q1 q2 q3
    exact ⟨g, o, q1, by omega, h4 k hk⟩
theorem own_cells_ed {w : World} {g : Nat} {l : List Ed} {ex : List Value} (h : w.heap[g]? = some (.cells (edsV l ++ ex).toArray 28 (0, 0))) (k : Nat) (hk : k < l.length) : w.rangeAt g (0 + k * 16) (l.getD k ed0).vals := fun j v hj => by
  have hv := edsV_len l
  rw [cell_of_row w g _ _ 28 (0, 0) h]
  rw [← edsV_part l k hk, List.getElem?_take] at hj
  split at hj
  · rename_i h34
    rw [List.getElem?_drop] at hj
    have hl := (List.getElem?_eq_some_iff.1 hj).1
    simp only [List.getElem?_toArray]
    rw [List.getElem?_append_left (by omega), Nat.zero_add]
    exact hj
  · cases hj
theorem own_edV {w : World} {base : Nat} {v : Value} {l : List Ed} (h : w.ownsRow base 28 16 v l.length (edsV l)) : EdV w v l := by
  rcases h.2 with ⟨rfl, h0⟩ | ⟨g, cap, cur, rfl, _, hg, hnc, _, hcs, ht⟩
  · exact .inl ⟨rfl, List.eq_nil_of_length_eq_zero h0⟩
  · have hg' : w.heap[g]? = some (.cells (edsV l ++ cur.toList.drop (l.length * 16)).toArray 28 (0, 0)) := by rw [hg, ← ht, List.take_append_drop]
    exact .inr ⟨g, 0, cap, rfl, hnc, fun _ => (Array.getElem?_eq_some_iff.1 hg').1, fun k hk => own_cells_ed hg' k hk⟩
theorem EdV.cells {w : World} {x : Addr} {n c : Nat} {l : List Ed} (h : EdV w (.slice (some x) n c) l) (hn : l.length = n) : ∀ j u, (edsV l)[j]? = some u → w.cell? (x.add j) = some u := fun j u hj => by
  have hl := edsV_len l
  have hjl := (List.getElem?_eq_some_iff.1 hj).1
  have hk : j / 16 < l.length := by omega
  obtain ⟨g, o, h1, _, h4⟩ := h.one hn (j / 16) (by omega)
  injection h1 with q1
  subst q1
  have h5 := h4 (j % 16) u (by
    rw [← edsV_part l (j / 16) hk, List.getElem?_take, if_pos (by omega), List.getElem?_drop, show j / 16 * 16 + j % 16 = j by omega]
    exact hj)
  rw [Addr.add_mid]
  rwa [show o + j / 16 * 16 + j % 16 = o + j by omega] at h5
/-- append(v, u...) of elements, where v is the call's own. -/
theorem app_eds (w : World) (base : Nat) (t ty : TypeId) (ht : Try.prog.underlying t = some (.slice 28)) (v u : Value) (l1 l2 : List Ed) (ho : w.ownsRow base 28 16 v l1.length (edsV l1)) (hu : EdV w u l2) (hb : base ≤ w.heap.size) (hl : l1.length + l2.length ≤ 1000000) :
    ∃ v' w', (Builtin.append_ #[t, t] ty #[v, u]).run Try.prog w = .ok v' w' ∧ w'.ownsRow base 28 16 v' (l1 ++ l2).length (edsV (l1 ++ l2)) ∧ Turn (fun q => v.ownBlock = some q) w w' := by
  obtain ⟨i0, hi, hz0, hz1, hz2⟩ := info_parts ed_infop
  have hlen : (l1 ++ l2).length = l1.length + l2.length := by simp
  rcases hu with ⟨rfl, rfl⟩ | hq
  · refine ⟨v, w, ?_, by simpa using ho, Turn.refl _ _⟩
    rcases ho.2 with ⟨rfl, h0⟩ | ⟨g, cap, cur, rfl, _, _, hnc, _⟩
    · simp [Builtin.append_, run_underlying ht, sizeOf, typeInfo, hi, Builtin.lenOf, Builtin.firstCells, h0]
    · simp [Builtin.append_, run_underlying ht, sizeOf, typeInfo, hi, Builtin.lenOf, Builtin.firstCells, hnc, storeCells]
  · have hu : EdV w u l2 := .inr hq
    obtain ⟨g, o, c, rfl, hc, _, h4⟩ := hq
    obtain ⟨v', w', hr, q1, q2, q3⟩ := run_append_own (P := Try.prog) w base t ty 28 i0 _ 16 176 ht hi hz0 hz1 hz2 (by rfl) (by decide) v l1.length _ ho ⟨g, o, none⟩ l2.length c (edsV l2) (by rw [edsV_len]; omega) (hu.cells rfl) (edsV_one l2) (by unfold maxLen; omega) (by omega) hb
    refine ⟨v', w', hr, by rw [hlen, edsV_app]; exact q1, (Turn.refl (fun q => v.ownBlock = some q) w).grown q2 (fun k h _ => h)⟩
theorem own_slice_ed {w : World} {base : Nat} {v : Value} {n : Nat} {xs : List Value} (h : w.ownsRow base 28 16 v n xs) : ∃ a c, v = .slice a n c := by
  rcases h.2 with ⟨rfl, rfl⟩ | ⟨g, cap', _, rfl, _⟩
  · exact ⟨_, _, rfl⟩
  · exact ⟨_, _, rfl⟩
/-- What turns only one's own row turns nothing old. -/
theorem turn_on_ed {w0 w w' : World} {base : Nat} {v : Value} {n : Nat} {xs : List Value} (h : w.ownsRow base 28 16 v n xs) (hb : w0.heap.size ≤ base) (t : Turn (fun _ => False) w0 w) (t' : Turn (fun q => v.ownBlock = some q) w w') : Turn (fun _ => False) w0 w' :=
  t.trans t' (fun i hi hv => by have := (h.lt i hv).1; omega)
theorem build_one_ed (t : TypeId) (ht : Try.prog.underlying t = some (.slice 28)) (r : Ed) (w : World) : (Instr.buildSlice t 1 #[(0, .agg r.vals.toArray)]).run Try.prog w = .ok (.slice (some ⟨w.heap.size, 0, none⟩) 1 1) (w.alloc (.cells r.vals.toArray 28)) := by
  obtain ⟨i0, hi, hz0, hz1, hz2⟩ := info_parts ed_infop
  refine run_buildSlice (P := Try.prog) w t 28 1 _ _ i0 _ ht hi hz0 (by rw [hz1]; decide) (by rw [hz1]; decide) ?_
  rw [hz1]
  exact fill_one 16 _ _ (by simp [Ed.vlen]) (by simp [ed0, Ed.vlen, Ed.vals, Ed.vlen])
theorem exec_build_one_ed (ev : Operand → Value) (op : Oper) (y : Operand) (t : TypeId) (ht : Try.prog.underlying t = some (.slice 28)) (ho : op.op = .buildSlice t 1 #[(0, y)]) (r : Ed) (hy : ev y = .agg r.vals.toArray) (w : World) : (execOp ev op).run Try.prog w = .ok (.value (.slice (some ⟨w.heap.size, 0, none⟩) 1 1)) (w.alloc (.cells r.vals.toArray 28)) := by
  unfold execOp
  simp only [ho, List.map_toArray, List.map_cons, List.map_nil, hy, Sem.run_bind, Sem.run_pure, build_one_ed t ht r, Result.andThen_ok]
theorem one_edV {w : World} (r : Ed) : EdV (w.alloc (.cells r.vals.toArray 28)) (.slice (some ⟨w.heap.size, 0, none⟩) 1 1) [r] := by
  have hb := box_alloc w 28 r.vals
  refine .inr ⟨w.heap.size, 0, 1, rfl, Nat.le_refl _, fun _ => by rw [hb.size]; omega, fun k hk => ?_⟩
  obtain rfl : k = 0 := by simpa using hk
  simpa using hb.range
/-- out = append(out, e): all in one. -/
theorem app_one_ed (w : World) (base : Nat) (t ty : TypeId) (ht : Try.prog.underlying t = some (.slice 28)) (v : Value) (l1 : List Ed) (r : Ed) (ho : w.ownsRow base 28 16 v l1.length (edsV l1)) (hb : base ≤ w.heap.size) (hl : l1.length + 1 ≤ 1000000) :
    ∃ v' w', (Builtin.append_ #[t, t] ty #[v, .slice (some ⟨w.heap.size, 0, none⟩) 1 1]).run Try.prog (w.alloc (.cells r.vals.toArray 28)) = .ok v' w' ∧ w'.ownsRow base 28 16 v' (l1 ++ [r]).length (edsV (l1 ++ [r])) ∧ Turn (fun q => v.ownBlock = some q) w w' ∧ ∃ a c, v' = .slice a (l1.length + 1) c := by
  have tb := (box_alloc w 28 r.vals).turn
  obtain ⟨v', w', hr, h1, h2⟩ := app_eds _ base t ty ht v _ l1 [r] (tb.owns ho (fun _ _ => id)) (one_edV (w := w) r) (Nat.le_trans hb tb.size) (by simpa using hl)
  refine ⟨v', w', hr, h1, (tb.mono (fun _ _ h => h.elim)).trans h2 (fun _ _ h => h), ?_⟩
  simpa using own_slice_ed h1
theorem getD_ext_ed {a b : List Ed} (hl : a.length = b.length) (h : ∀ k, k < a.length → a.getD k ed0 = b.getD k ed0) : a = b := by
  apply List.ext_getElem hl
  intro i h1 h2
  have := h i h1
  simpa [List.getD, h1, h2] using this
theorem getD_mem_ed {l : List Ed} {k : Nat} (h : k < l.length) : l.getD k ed0 ∈ l := by
  have : l.getD k ed0 = l[k] := by simp [List.getD, h]
  rw [this]
  exact List.getElem_mem _
theorem take_snoc_ed (l : List Ed) (k : Nat) (h : k < l.length) : l.take (k + 1) = l.take k ++ [l.getD k ed0] := by
  rw [List.take_succ_eq_append_getElem h]
  simp [List.getD, h]
theorem run_agg24 (w : World) : (isAgg 24).run Try.prog w = .ok true w := by kernel_rfl
theorem run_agg26 (w : World) : (isAgg 26).run Try.prog w = .ok true w := by kernel_rfl
theorem eqEl (n : Nat) (o1 o2 : El) (w : World) : (Op.equalIn (n + 1 + 1) 24 (.agg o1.vals.toArray) (.agg o2.vals.toArray)).run Try.prog w = .ok (decide (o1 = o2)) w := by
  have hu : Try.prog.underlying 24 = some (.struct (Try.prog.fieldsOf 24)) := by rw [el_fields]; kernel_rfl
  rw [run_equalIn_struct w (n + 1) 24 _ _ hu (by kernel_rfl), el_fields]
  have eI := fun a b : Int => run_equalIn_int (P := Try.prog) w n 3 .i64 .i64 a b Try.underlying3
  have eU := fun a b : Int => run_equalIn_int (P := Try.prog) w n 5 .u8 .u8 a b Try.underlying5
  have eS : ∀ a b : ByteArray, (Op.equalIn (n + 1) 9 (.string a) (.string b)).run Try.prog w = .ok (decide (a = b)) w := fun a b => by rw [← name_eq]; exact run_equalIn_string w n 9 a b Try.underlying9
  have p := fun (t k : Nat) (v : Value) (ha : ∀ w, (isAgg t).run Try.prog w = .ok false w) (o : El) (hk : o.vals[k]? = some v) => part_at t ha o k v hk w
  simp only [Op.eqFields, Sem.run_bind, Sem.run_ite, p 3 0 _ run_agg3 o1 rfl, p 3 0 _ run_agg3 o2 rfl, p 5 1 _ run_agg5 o1 rfl, p 5 1 _ run_agg5 o2 rfl, p 3 2 _ run_agg3 o1 rfl, p 3 2 _ run_agg3 o2 rfl, p 3 3 _ run_agg3 o1 rfl, p 3 3 _ run_agg3 o2 rfl,
    p 9 4 _ run_agg9 o1 rfl, p 9 4 _ run_agg9 o2 rfl, p 3 5 _ run_agg3 o1 rfl, p 3 5 _ run_agg3 o2 rfl, p 3 6 _ run_agg3 o1 rfl, p 3 6 _ run_agg3 o2 rfl, p 9 7 _ run_agg9 o1 rfl, p 9 7 _ run_agg9 o2 rfl, p 9 8 _ run_agg9 o1 rfl, p 9 8 _ run_agg9 o2 rfl, p 9 9 _ run_agg9 o1 rfl, p 9 9 _ run_agg9 o2 rfl, Result.andThen_ok, eI, eU, eS]
  obtain ⟨a0, a1, a2, a3, a4, a5, a6, a7, a8, a9⟩ := o1
  obtain ⟨b0, b1, b2, b3, b4, b5, b6, b7, b8, b9⟩ := o2
  simp only [El.mk.injEq]
  by_cases h0 : a0 = b0
  · by_cases h1 : a1 = b1
    · by_cases h2 : a2 = b2
      · by_cases h3 : a3 = b3
        · by_cases h4 : a4 = b4
          · by_cases h5 : a5 = b5
            · by_cases h6 : a6 = b6
              · by_cases h7 : a7 = b7
                · by_cases h8 : a8 = b8
                  · by_cases h9 : a9 = b9
                    · simp [h0, h1, h2, h3, h4, h5, h6, h7, h8, h9]
                    · simp [h0, h1, h2, h3, h4, h5, h6, h7, h8, h9]
                  · simp [h0, h1, h2, h3, h4, h5, h6, h7, h8]
                · simp [h0, h1, h2, h3, h4, h5, h6, h7]
              · simp [h0, h1, h2, h3, h4, h5, h6]
            · simp [h0, h1, h2, h3, h4, h5]
          · simp [h0, h1, h2, h3, h4]
        · simp [h0, h1, h2, h3]
      · simp [h0, h1, h2]
    · simp [h0, h1]
  · simp [h0]
theorem eqVl (n : Nat) (n1 n2 : Int) (s1 s2 : ByteArray) (w : World) : (Op.equalIn (n + 1 + 1) 26 (.agg (vl n1 s1).toArray) (.agg (vl n2 s2).toArray)).run Try.prog w = .ok (decide (n1 = n2 ∧ s1 = s2)) w := by
  have hu : Try.prog.underlying 26 = some (.struct (Try.prog.fieldsOf 26)) := by rw [vl_fields]; kernel_rfl
  rw [run_equalIn_struct w (n + 1) 26 _ _ hu (by kernel_rfl), vl_fields]
  have eI := run_equalIn_int (P := Try.prog) w n 3 .i64 .i64 n1 n2 Try.underlying3
  have eS := run_equalIn_string (P := Try.prog) w n 9 s1 s2 Try.underlying9
  rw [name_eq] at eS
  simp only [Op.eqFields, Sem.run_bind, Sem.run_ite, vpart 3 run_agg3 n1 s1 0 _ rfl, vpart 3 run_agg3 n2 s2 0 _ rfl, vpart 9 run_agg9 n1 s1 1 _ rfl, vpart 9 run_agg9 n2 s2 1 _ rfl, Result.andThen_ok, eI, eS]
  by_cases h0 : n1 = n2
  · by_cases h1 : s1 = s2
    · simp [h0, h1]
    · simp [h0, h1]
  · simp [h0]
theorem ed_fields : Try.prog.fieldsOf 28 = #[⟨"Op", 5, 0, false, "", "", 0⟩, ⟨"E", 24, 1, false, "", "", 8⟩, ⟨"Field", 3, 11, false, "", "", 120⟩, ⟨"Old", 26, 12, false, "", "", 128⟩, ⟨"New", 26, 14, false, "", "", 152⟩] := by kernel_rfl
theorem pOp (x : Ed) (w : World) : (part 5 x.vals.toArray 0).run Try.prog w = .ok (.int .u8 x.op) w := by kernel_rfl
theorem pE (x : Ed) (w : World) : (part 24 x.vals.toArray 1).run Try.prog w = .ok (.agg x.e.vals.toArray) w := by kernel_rfl
theorem pF (x : Ed) (w : World) : (part 3 x.vals.toArray 11).run Try.prog w = .ok (.int .i64 x.f) w := by kernel_rfl
theorem pO (x : Ed) (w : World) : (part 26 x.vals.toArray 12).run Try.prog w = .ok (.agg (vl x.on x.os).toArray) w := by kernel_rfl
theorem pN (x : Ed) (w : World) : (part 26 x.vals.toArray 14).run Try.prog w = .ok (.agg (vl x.nn x.ns).toArray) w := by kernel_rfl
theorem eqEd (x y : Ed) (w : World) : (Op.equalIn 10000 28 (.agg x.vals.toArray) (.agg y.vals.toArray)).run Try.prog w = .ok (decide (x = y)) w := by
  have hu : Try.prog.underlying 28 = some (.struct (Try.prog.fieldsOf 28)) := by rw [ed_fields]; kernel_rfl
  rw [run_equalIn_struct w 9999 28 _ _ hu (by kernel_rfl), ed_fields]
  have eU := run_equalIn_int (P := Try.prog) w 9998 5 .u8 .u8 x.op y.op Try.underlying5
  have eI := run_equalIn_int (P := Try.prog) w 9998 3 .i64 .i64 x.f y.f Try.underlying3
  have eE := eqEl 9997 x.e y.e w
  have eO := eqVl 9997 x.on y.on x.os y.os w
  have eN := eqVl 9997 x.nn y.nn x.ns y.ns w
  simp only [Nat.reduceAdd] at eU eI eE eO eN
  simp only [Op.eqFields, Sem.run_bind, Sem.run_ite, pOp, pE, pF, pO, pN, Result.andThen_ok, eU, eI, eE, eO, eN]
  obtain ⟨a0, a1, a2, a3, a4, a5, a6⟩ := x
  obtain ⟨b0, b1, b2, b3, b4, b5, b6⟩ := y
  simp only [Ed.mk.injEq]
  by_cases h0 : a0 = b0
  · by_cases h1 : a1 = b1
    · by_cases h2 : a2 = b2
      · by_cases h3 : a3 = b3 ∧ a4 = b4
        · by_cases h5 : a5 = b5 ∧ a6 = b6
          · simp [h0, h1, h2, h3, h5]
          · have : ¬ (a3 = b3 ∧ a4 = b4 ∧ a5 = b5 ∧ a6 = b6) := fun h => h5 h.2.2
            simp [h0, h1, h2, h3, h5, this]
        · have : ¬ (a3 = b3 ∧ a4 = b4 ∧ a5 = b5 ∧ a6 = b6) := fun h => h3 ⟨h.1, h.2.1⟩
          simp [h0, h1, h2, h3, this]
      · simp [h0, h1, h2]
    · simp [h0, h1]
  · simp [h0]
theorem exec_eql_ed (ev : Operand → Value) (op : Oper) {a b : Operand} (ho : op.op = .binOp .eql 28 a b 28) (o1 o2 : Ed) (w : World) (h1 : ev a = .agg o1.vals.toArray) (h2 : ev b = .agg o2.vals.toArray) : (execOp ev op).run Try.prog w = .ok (.value (.bool (decide (o1 = o2)))) w := by
  have hg : (eqGuard .eql 28 a b (.agg o1.vals.toArray) (.agg o2.vals.toArray)).run Try.prog w = .ok () w := by simp [eqGuard]
  unfold execOp
  simp only [ho, h1, h2, Sem.run_bind, run_eql_struct, eqEd, hg, Result.andThen_ok, Sem.run_pure]
/-- The cells of an edit. -/
theorem range_sub {w : World} {B o : Nat} {a b c : List Value} (h : w.rangeAt B o (a ++ (b ++ c))) : w.rangeAt B (o + a.length) b := fun j v hj => by
  have hl := (List.getElem?_eq_some_iff.1 hj).1
  have := h (a.length + j) v (by rw [List.getElem?_append_right (by omega), Nat.add_sub_cancel_left, List.getElem?_append_left hl]; exact hj)
  rwa [← Nat.add_assoc] at this
theorem edE {w : World} {B o : Nat} {x : Ed} (h : w.rangeAt B o x.vals) : w.rangeAt B (o + 1) x.e.vals := range_sub (a := [_]) (b := x.e.vals) h
theorem edO {w : World} {B o : Nat} {x : Ed} (h : w.rangeAt B o x.vals) : w.rangeAt B (o + 12) (vl x.on x.os) := range_sub (a := .int .u8 x.op :: (x.e.vals ++ [.int .i64 x.f])) (b := vl x.on x.os) (c := vl x.nn x.ns) h
theorem edN {w : World} {B o : Nat} {x : Ed} (h : w.rangeAt B o x.vals) : w.rangeAt B (o + 14) (vl x.nn x.ns) := range_sub (a := .int .u8 x.op :: (x.e.vals ++ (.int .i64 x.f :: vl x.on x.os))) (b := vl x.nn x.ns) (c := []) h
theorem edC {w : World} {B o : Nat} {x : Ed} (h : w.rangeAt B o x.vals) : w.cell? ⟨B, o, none⟩ = some (.int .u8 x.op) ∧ w.cell? ⟨B, o + 1, none⟩ = some (.int .i64 x.e.id) ∧ w.cell? ⟨B, o + 3, none⟩ = some (.int .i64 x.e.par) ∧ w.cell? ⟨B, o + 11, none⟩ = some (.int .i64 x.f) ∧ w.cell? ⟨B, o + 12, none⟩ = some (.int .i64 x.on) ∧ w.cell? ⟨B, o + 14, none⟩ = some (.int .i64 x.nn) :=
  ⟨h 0 _ rfl, h 1 _ rfl, h 3 _ rfl, h 11 _ rfl, h 12 _ rfl, h 14 _ rfl⟩
theorem exec_edB (ev : Operand → Value) (op : Oper) (x y : Operand) (n : Int) (e : El) (ho : op.op = .build 28 #[(0, x), (1, y)]) (hx : ev x = .int .u8 n) (hy : ev y = .agg e.vals.toArray) (w : World) : (execOp ev op).run Try.prog w = .ok (.value (.agg (Ed.mk n e 0 0 e0 0 e0).vals.toArray)) w := by
  have : (Instr.build 28 #[(0, .int .u8 n), (1, .agg e.vals.toArray)]).run Try.prog w = .ok (.agg (Ed.mk n e 0 0 e0 0 e0).vals.toArray) w := by kernel_rfl
  unfold execOp
  simp only [ho, List.map_toArray, List.map_cons, List.map_nil, hx, hy, Sem.run_bind, Sem.run_pure, this, Result.andThen_ok]
theorem exec_zero_ed (ev : Operand → Value) (op : Oper) (ho : op.op = .alloc 28) (w : World) : (execOp ev op).run Try.prog w = .ok (.value (.pointer (some ⟨w.heap.size, 0, none⟩))) (w.alloc (.cells ed0.vals.toArray 28)) := by
  unfold execOp
  simp only [ho, Sem.run_bind, ed_zero, Result.andThen_ok]
  rfl
section
variable {P : Program} {ops : Array Oper} {Q : Exit → Act → World → Prop} {a : Act} {o : Oper} {rest : List Oper}
theorem list_set1 (w : World) (E : Nat) (T ty : TypeId) (zs : List Value) (j : Nat) (v : Value) (hh : w.heap[E]? = some (.cells zs.toArray T (0, 0))) (hj : j < zs.length) (h1 : v.oneCell' = true) (hv : v.cells = #[v]) (hi : (P.info? ty).map (·.size) = some 1)
    (hgd : o.guard = none) (x y : Operand) (ho : o.op = .store ty x y) (hx : a.eval x = .pointer (some ⟨E, j, none⟩)) (hy : a.eval y = v)
    (h : ∀ w', w'.heap[E]? = some (.cells (zs.set j v).toArray T (0, 0)) → Turn (fun q => q = E) w w' → wpList P ops Q rest (a.put o.dst undef) w') : wpList P ops Q (o :: rest) a w := by
  have ht := there_row hh
  have hst := run_storeCells_cells (P := P) E j [v] 0 w (fun i hi => by
    have hi0 : i = 0 := by simpa using hi
    subst hi0
    simpa using (ht j hj).1) (fun i hi => by
    have hi0 : i = 0 := by simpa using hi
    subst hi0
    simpa using (ht j hj).2) (fun u hu => by rw [List.mem_singleton.1 hu]; exact h1)
  have hsv : (storeVar ty ⟨E, j, none⟩ v).run P w = .ok () (w.setCells E j [v]) := by
    cases hq : P.info? ty with
    | none => simp [hq] at hi
    | some i =>
      have hs : i.size = 1 := by simpa [hq] using hi
      simp only [Nat.add_zero] at hst
      simp [storeVar, sizeOf, typeInfo, hq, hv, hs, hst]
  refine wpList_plain hgd fun _ hK => ?_
  unfold Oper.wp execOp
  simp only [ho, hx, hy, Instr.storeAt, Instr.sureAddr, Sem.run_bind, Sem.run_pure, Result.andThen_ok, hsv]
  refine hK _ _ (h _ ?_ (turn_setCells E [v] j w))
  rw [heap_setCells E T [v] j w zs hh (by simp; omega)]
  congr 3
  rw [List.set_eq_take_append_cons_drop, if_pos hj]
  simp
end
section
variable {P : Program} {ops : Array Oper} {Q : Exit → Act → World → Prop} {a : Act} {o : Oper} {rest : List Oper}
/-- A part of a variable is written. -/
theorem list_mid (w : World) (B j : Nat) (T U : TypeId) (zs cs : List Value) (hh : w.heap[B]? = some (.cells zs.toArray T (0, 0))) (hl : j + cs.length ≤ zs.length) (h1 : ∀ v ∈ cs, v.oneCell' = true) (hi : (P.info? U).map (·.size) = some cs.length)
    (hgd : o.guard = none) (x y : Operand) (ho : o.op = .store U x y) (hx : a.eval x = .pointer (some ⟨B, j, none⟩)) (hy : a.eval y = .agg cs.toArray)
    (h : ∀ w', w'.heap[B]? = some (.cells (zs.take j ++ cs ++ zs.drop (j + cs.length)).toArray T (0, 0)) → Turn (fun q => q = B) w w' → wpList P ops Q rest (a.put o.dst undef) w') : wpList P ops Q (o :: rest) a w := by
  refine wpList_store_mid hgd U x y ho B j cs.toArray hx hy (fun i hi => ?_) (by simpa using hi) (all_oneCell_toArray h1) (h _ (heap_setCells B T cs j w zs hh hl) (turn_setCells B cs j w))
  have := there_row hh (j + i) (by simp only [List.size_toArray] at hi; omega)
  simpa using this
end
/-- An element of a row of one's own is written. -/
theorem own_set_ed {w : World} {base g cap n : Nat} {C : List Ed} (h : w.ownsRow base 28 16 (.slice (some ⟨g, 0, none⟩) n cap) n (edsV C)) (hn : C.length = n) (i : Nat) (hi : i < n) (x : Ed) :
    (w.setCells g (i * 16) x.vals).ownsRow base 28 16 (.slice (some ⟨g, 0, none⟩) n cap) n (edsV (C.set i x)) ∧ w.there g (i * 16) 16 := by
  rcases h.2 with ⟨h1, _⟩ | ⟨g', cap', cur, h1, h2, h3, h4, h5, h6, h7⟩
  · cases h1
  · injection h1 with q1 q2 q3
    injection q1 with q1
    injection q1 with q1 _ _
    subst q1 q3
    have h3' : w.heap[g]? = some (.cells cur.toList.toArray 28 (0, 0)) := by simpa using h3
    have hcl : cur.toList.length = cap * 16 := by simpa using h6
    have hs := heap_setCells g 28 x.vals (i * 16) w cur.toList h3' (by rw [Ed.vlen]; omega)
    refine ⟨⟨?_, .inr ⟨g, cap, _, rfl, h2, hs, h4, h5, ?_, ?_⟩⟩, fun j hj => ?_⟩
    · rw [edsV_len, List.length_set, hn]; omega
    · simp only [List.size_toArray, List.length_append, List.length_take, List.length_drop, Ed.vlen]; omega
    · have hl := edsV_len C
      rw [edsV_set C x i (by omega), ← h7]
      simp only [Ed.vlen]
      rw [List.take_take, List.drop_take, List.take_append, List.take_append]
      simp only [List.length_take, List.length_append, Ed.vlen]
      rw [List.take_of_length_le (l := cur.toList.take (i * 16)) (by simp only [List.length_take]; omega), List.take_of_length_le (l := x.vals) (by rw [Ed.vlen]; omega)]
      rw [show min (i * 16) (n * 16) = i * 16 by omega, show n * 16 - (min (i * 16) cur.toList.length + 16) = n * 16 - (i * 16 + 16) by omega]
    · have := there_row h3' (i * 16 + j) (by omega)
      simpa using this
/-- A row of edits of the call's own. -/
def OwE (b : Nat) (w : World) (v : Value) (l : List Ed) : Prop := w.ownsRow b 28 16 v l.length (edsV l)
theorem OwE.row {b : Nat} {w : World} {v : Value} {l : List Ed} (h : OwE b w v l) : EdV w v l := own_edV h
theorem OwE.turn {b : Nat} {w w' : World} {v : Value} {l : List Ed} {G : Nat → Prop} (h : OwE b w v l) (t : Turn G w w') (hn : ∀ q, v.ownBlock = some q → ¬ G q) : OwE b w' v l := t.owns h hn
theorem OwE.at {b : Nat} {w : World} {a : Option Addr} {n c : Nat} {l : List Ed} (h : OwE b w (.slice a n c) l) (hn : l.length = n) (h0 : 0 < n) : ∃ g, a = some ⟨g, 0, none⟩ ∧ b ≤ g ∧ g < w.heap.size := by
  rcases h.2 with ⟨h1, h2⟩ | ⟨g, cap, cur, h1, h2, h3, _⟩
  · omega
  · injection h1 with q1 _ _
    exact ⟨g, q1, h2, (Array.getElem?_eq_some_iff.1 h3).1⟩
theorem OwE.set {b : Nat} {w : World} {g n c : Nat} {l : List Ed} (h : OwE b w (.slice (some ⟨g, 0, none⟩) n c) l) (hn : l.length = n) (i : Nat) (hi : i < n) (x : Ed) : OwE b (w.setCells g (i * 16) x.vals) (.slice (some ⟨g, 0, none⟩) n c) (l.set i x) := by
  unfold OwE at h ⊢
  rw [hn] at h
  have := (own_set_ed h hn i hi x).1
  rw [List.length_set, hn]
  exact this
/-- A new row of edits. -/
def NewEds (w : World) (l : List Ed) (e : Ending) (w' : World) : Prop := ∃ v, e = .returned v ∧ OwE w.heap.size w' v l ∧ Turn (fun _ => False) w w'

end Go.Proofs.Ytbokdgcdkmnldaa
