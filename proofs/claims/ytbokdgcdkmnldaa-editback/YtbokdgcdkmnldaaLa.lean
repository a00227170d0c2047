/- Own contracts: edits: for the laws. No statement is proved here. -/
import Derived.Test.YtbokdgcdkmnldaaEr
import Derived.Test.YtbokdgcdkmnldaaEz
namespace Go.Proofs.Ytbokdgcdkmnldaa
set_option maxRecDepth 100000
open Go.RowKit
set_option linter.unusedVariables false
set_option linter.unusedSimpArgs false

theorem same_eq (w : World) (v1 v2 : Value) (L : List El) (h1 : RowV w v1 L) (h2 : RowV w v2 L) (hb : L.length ≤ 1000) : Calls Try.prog 13 #[v1, v2] w fun e w' => e = .returned (.bool true) ∧ Turn (fun _ => False) w w' :=
  (same_any w v1 v2 L L h1 h2 ⟨by omega, by omega⟩).mono fun e w' ⟨he, t⟩ => ⟨by rw [he]; simp, t⟩
theorem row_nil {w : World} {v : Value} (h : RowV w v []) : ∃ a c, v = .slice a 0 c := h.form
theorem apply_len : ∀ {xs : List Ed} {l : List El} {k : Nat}, (applyFrom l xs k).1.length ≤ l.length + xs.length := by
  intro xs
  induction xs with
  | nil => intro l k; simp [applyFrom]
  | cons x xs ih =>
    intro l k
    simp only [applyFrom, List.length_cons]
    split
    · have h1 := @ih (oneE l x).1 (k + 1)
      have h2 := oneE_len (l := l) (x := x)
      omega
    · exact Nat.zero_le _
theorem applyE_len {xs : List Ed} {l : List El} : (applyE l xs).1.length ≤ l.length + xs.length := by
  unfold applyE
  split
  · exact Nat.zero_le _
  · exact apply_len
theorem oneE_may {l : List El} {x : Ed} (h : (oneE l x).2 = 0) : mayB x = true := by
  cases hm : mayB x
  · unfold oneE at h
    rw [hm] at h
    split at h
    · cases h
    · cases h
  · rfl
theorem apply_may : ∀ {xs : List Ed} {l : List El} {k : Nat}, (applyFrom l xs k).2.2 = 0 → ∀ x ∈ xs, mayB x = true := by
  intro xs
  induction xs with
  | nil => intro l k _ x hx; cases hx
  | cons x xs ih =>
    intro l k h y hy
    simp only [applyFrom] at h
    by_cases h0 : (oneE l x).2 = 0
    · rw [if_pos h0] at h
      rcases List.mem_cons.1 hy with rfl | hy
      · exact oneE_may h0
      · exact ih h y hy
    · rw [if_neg h0] at h
      exact absurd h h0
theorem apply_bad {l : List El} {xs : List Ed} {k : Nat} (hk : k < xs.length) (h0 : (xs.getD k ed0).op = 0) : (applyE l xs).2.2 ≠ 0 := by
  intro h
  have hm : mayB (xs.getD k ed0) = true := by
    unfold applyE at h
    split at h
    · cases h
    · exact apply_may h _ (getD_mem_ed hk)
  rw [may_0 (by omega)] at hm
  cases hm
theorem apply_fst {l : List El} {xs : List Ed} (h : (applyE l xs).2.2 ≠ 0) : (applyE l xs).1 = [] := apply_nil (k := (applyE l xs).2.1) (e := (applyE l xs).2.2) rfl h
theorem inv_len (l : List Ed) : (invE l).length = l.length := by simp [invE]
theorem app_from_nil (w : World) (u : Value) (l : List El) (hu : RowV w u l) (hl : l.length ≤ 1000) :
    ∃ v' w', (Builtin.append_ #[30, 30] 30 #[.slice none 0 0, u]).run Try.prog w = .ok v' w' ∧ RowV w' v' l ∧ Turn (fun _ => False) w w' := by
  obtain ⟨v', w', hr, ho, t⟩ := app_els w w.heap.size 30 30 Try.underlying30 (.slice none 0 0) u [] l (World.ownsRow_nil _ _ _ _) hu (Nat.le_refl _) (by simp; omega)
  exact ⟨v', w', hr, own_rowV (by simpa using ho), t.mono (fun q _ h => by cases h)⟩
theorem build_eds2 (x0 x1 : Ed) (w : World) : (Instr.buildSlice 40 2 #[(0, .agg x0.vals.toArray), (1, .agg x1.vals.toArray)]).run Try.prog w = .ok (.slice (some ⟨w.heap.size, 0, none⟩) 2 2) (w.alloc (.cells (edsV [x0, x1]).toArray 28)) := by
  obtain ⟨i0, hi, hz0, hz1, hz2⟩ := info_parts ed_infop
  refine run_buildSlice (P := Try.prog) w 40 28 2 _ _ i0 _ Try.underlying40 hi hz0 (by rw [hz1]; decide) (by rw [hz1]; decide) ?_
  rw [hz1]
  kernel_rfl
theorem exec_eds2 (ev : Operand → Value) (op : Oper) (y0 y1 : Operand) (ho : op.op = .buildSlice 40 2 #[(0, y0), (1, y1)]) (x0 x1 : Ed) (h0 : ev y0 = .agg x0.vals.toArray) (h1 : ev y1 = .agg x1.vals.toArray) (w : World) : (execOp ev op).run Try.prog w = .ok (.value (.slice (some ⟨w.heap.size, 0, none⟩) 2 2)) (w.alloc (.cells (edsV [x0, x1]).toArray 28)) := by
  unfold execOp
  simp only [ho, List.map_toArray, List.map_cons, List.map_nil, h0, h1, Sem.run_bind, Sem.run_pure, build_eds2, Result.andThen_ok]
theorem own_alloc_ed (w : World) (l : List Ed) (hl : l.length ≤ 1000) : OwE w.heap.size (w.alloc (.cells (edsV l).toArray 28)) (.slice (some ⟨w.heap.size, 0, none⟩) l.length l.length) l := by
  refine ⟨by rw [edsV_len]; omega, .inr ⟨w.heap.size, l.length, _, rfl, Nat.le_refl _, heap_alloc_new w _, Nat.le_refl _, by unfold maxLen; omega, by simp [edsV_len, Nat.mul_comm], ?_⟩⟩
  have h := edsV_len l
  rw [List.take_of_length_le (by simp; omega)]
theorem exec_el01 (ev : Operand → Value) (op : Oper) (x0 x1 : Operand) (i0 i1 : Int) (ho : op.op = .build 24 #[(0, x0), (1, x1)]) (h0 : ev x0 = .int .i64 i0) (h1 : ev x1 = .int .u8 i1) (w : World) : (execOp ev op).run Try.prog w = .ok (.value (.agg (El.mk i0 i1 0 0 e0 0 0 e0 e0 e0).vals.toArray)) w := by
  have : (Instr.build 24 #[(0, .int .i64 i0), (1, .int .u8 i1)]).run Try.prog w = .ok (.agg (El.mk i0 i1 0 0 e0 0 0 e0 e0 e0).vals.toArray) w := by kernel_rfl
  unfold execOp
  simp only [ho, List.map_toArray, List.map_cons, List.map_nil, h0, h1, Sem.run_bind, Sem.run_pure, this, Result.andThen_ok]
theorem exec_el012 (ev : Operand → Value) (op : Oper) (x0 x1 x2 : Operand) (i0 i1 i2 : Int) (ho : op.op = .build 24 #[(0, x0), (1, x1), (2, x2)]) (h0 : ev x0 = .int .i64 i0) (h1 : ev x1 = .int .u8 i1) (h2 : ev x2 = .int .i64 i2) (w : World) : (execOp ev op).run Try.prog w = .ok (.value (.agg (El.mk i0 i1 i2 0 e0 0 0 e0 e0 e0).vals.toArray)) w := by
  have : (Instr.build 24 #[(0, .int .i64 i0), (1, .int .u8 i1), (2, .int .i64 i2)]).run Try.prog w = .ok (.agg (El.mk i0 i1 i2 0 e0 0 0 e0 e0 e0).vals.toArray) w := by kernel_rfl
  unfold execOp
  simp only [ho, List.map_toArray, List.map_cons, List.map_nil, h0, h1, h2, Sem.run_bind, Sem.run_pure, this, Result.andThen_ok]
theorem Turn.below {S : Nat → Prop} {w w' : World} {B : Nat} (h : Turn S w w') (hB : B ≤ w.heap.size) (hS : ∀ k, k < B → ¬ S k) : Below B w w' :=
  ⟨h.os, h.tape, h.output, h.size, fun k hk => h.block k (by omega) (hS k hk)⟩
theorem laidOut : laidOutB Try.prog = true := by kernel_rfl

end Go.Proofs.Ytbokdgcdkmnldaa
