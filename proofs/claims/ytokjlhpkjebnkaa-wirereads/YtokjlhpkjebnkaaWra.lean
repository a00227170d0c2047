/- Own contracts: rows of bytes. No statement is proved here. -/
import Derived.Test.YtokjlhpkjebnkaaWby
import Derived.Test.YtokjlhpkjebnkaaOa
namespace Go.Proofs.Ytokjlhpkjebnkaa
set_option maxRecDepth 100000
open Go.RowKit
set_option linter.unusedVariables false
set_option linter.unusedSimpArgs false


theorem app_mark0 (w : World) (base : Nat) (p : Value) (u : Value) (ys : List Int) (hp : Src w p [67, 49]) (hpv : ∃ x, p = .slice (some x) 2 2) (hu : Src w u ys) (hb : base ≤ w.heap.size) (hl : ys.length ≤ 1000000) :
    ∃ v' w', (Builtin.append_ #[49, 49] 49 #[p, u]).run Try.prog w = .ok v' w' ∧ Src w' v' ([67, 49] ++ ys) ∧ Turn (fun _ => False) w w' ∧ ∃ a c, v' = .slice a ([67, 49] ++ ys).length c := by
  by_cases h0 : 0 < ys.length
  · obtain ⟨v', w', hr, ho, t⟩ := app_mark w base p u ys hp hpv hu h0 hb hl
    exact ⟨v', w', hr, .inl (Reads.of_owns ho), t, own_slice ho⟩
  · have hy : ys = [] := List.eq_nil_of_length_eq_zero (by omega)
    subst hy
    obtain ⟨b, rfl⟩ := hpv
    obtain ⟨i0, hi, hz0, hz1, hz2⟩ := info_parts Try.info5
    refine ⟨_, w, ?_, by simpa using hp, Turn.refl _ _, ⟨_, _, rfl⟩⟩
    rcases hu with (⟨rfl, _⟩ | ⟨g, o, c, rfl, _⟩) | ⟨x, c, rfl, _⟩
    · simp [Builtin.append_, run_underlying Try.underlying49, sizeOf, typeInfo, hi, Builtin.lenOf, Builtin.firstCells, storeCells]
    · simp [Builtin.append_, run_underlying Try.underlying49, sizeOf, typeInfo, hi, Builtin.lenOf, Builtin.firstCells, storeCells, loadCells, loadCellsFrom]
    · simp [Builtin.append_, run_underlying Try.underlying49, sizeOf, typeInfo, hi, Builtin.lenOf, Builtin.firstCells, storeCells, loadCells, loadCellsFrom]
theorem info49p : (Try.prog.info? 49).map (fun i => (i.zero, i.size, i.bytes)) = some (some (.slice none 0 0), 1, 24) := by kernel_rfl
theorem build5s (a1 a2 a3 a4 a5 : Option Addr) (n1 n2 n3 n4 n5 c1 c2 c3 c4 c5 : Nat) (w : World) : (Instr.buildSlice 58 5 #[(0, .slice a1 n1 c1), (1, .slice a2 n2 c2), (2, .slice a3 n3 c3), (3, .slice a4 n4 c4), (4, .slice a5 n5 c5)]).run Try.prog w = .ok (.slice (some ⟨w.heap.size, 0, none⟩) 5 5) (w.alloc (.cells [Value.slice a1 n1 c1, .slice a2 n2 c2, .slice a3 n3 c3, .slice a4 n4 c4, .slice a5 n5 c5].toArray 49)) := by
  obtain ⟨i0, hi, hz0, hz1, hz2⟩ := info_parts info49p
  refine run_buildSlice (P := Try.prog) w 58 49 5 _ _ i0 _ Try.underlying58 hi hz0 (by rw [hz1]; decide) (by rw [hz1]; decide) ?_
  rw [hz1]
  kernel_rfl
theorem exec_build5s (ev : Operand → Value) (op : Oper) (x1 x2 x3 x4 x5 : Operand) (ho : op.op = .buildSlice 58 5 #[(0, x1), (1, x2), (2, x3), (3, x4), (4, x5)]) (a1 a2 a3 a4 a5 : Option Addr) (n1 n2 n3 n4 n5 c1 c2 c3 c4 c5 : Nat) (h1 : ev x1 = .slice a1 n1 c1) (h2 : ev x2 = .slice a2 n2 c2) (h3 : ev x3 = .slice a3 n3 c3) (h4 : ev x4 = .slice a4 n4 c4) (h5 : ev x5 = .slice a5 n5 c5) (w : World) : (execOp ev op).run Try.prog w = .ok (.value (.slice (some ⟨w.heap.size, 0, none⟩) 5 5)) (w.alloc (.cells [Value.slice a1 n1 c1, .slice a2 n2 c2, .slice a3 n3 c3, .slice a4 n4 c4, .slice a5 n5 c5].toArray 49)) := by
  unfold execOp
  simp only [ho, List.map_toArray, List.map_cons, List.map_nil, h1, h2, h3, h4, h5, Sem.run_bind, Sem.run_pure, build5s, Result.andThen_ok]
/-- Reads of the first bytes of a row. -/
theorem reads_take {w : World} {g n c : Nat} {xs : List Int} (h : ∀ i, i < n → w.cell? ⟨g, i, none⟩ = some (.int .u8 (xs.getD i 0))) (hn : xs.length = n) (hc : n ≤ c) (k : Nat) (hk : k ≤ n) : Src w (.slice (some ⟨g, 0, none⟩) k c) (xs.take k) := by
  have hl : (xs.take k).length = k := by simp; omega
  refine .inl (.inr ⟨g, 0, c, by rw [hl], by omega, fun i hi => ?_⟩)
  rw [hl] at hi
  rw [Nat.zero_add, h i (by omega)]
  congr 2
  simp only [List.getD, List.getElem?_take, if_pos hi]
theorem own_first {w : World} {base : Nat} {v : Value} {xs : List Int} (h : w.ownsRow base 5 1 v xs.length (xs.map (Value.int .u8))) (hpos : 0 < xs.length) : ∃ g c, v = .slice (some ⟨g, 0, none⟩) xs.length c ∧ xs.length ≤ c ∧ g < w.heap.size ∧ base ≤ g ∧ (∀ i, i < xs.length → w.cell? ⟨g, i, none⟩ = some (.int .u8 (xs.getD i 0))) ∧ ∀ i, i < xs.length → w.frozen? ⟨g, i, none⟩ = false := by
  rcases h.2 with ⟨_, h0⟩ | ⟨g, cap, cur, rfl, hb, hg, hnc, _, hcs, ht⟩
  · omega
  · refine ⟨g, cap, rfl, hnc, (Array.getElem?_eq_some_iff.1 hg).1, hb, fun i hi => ?_, fun i hi => by have h1 := hg; exact frozen_of_row w g i cur 5 h1⟩
    have := h.cells (g := g) rfl i (.int .u8 (xs.getD i 0)) (by simp [List.getD, hi])
    rwa [Addr.add_mid, Nat.zero_add] at this
theorem put_byte {w : World} {g n : Nat} {xs : List Int} (h : ∀ i, i < n → w.cell? ⟨g, i, none⟩ = some (.int .u8 (xs.getD i 0))) (hn : xs.length = n) (j : Nat) (hj : j < n) (y : Int) : ∀ i, i < n → (w.setCell ⟨g, j, none⟩ (.int .u8 y)).cell? ⟨g, i, none⟩ = some (.int .u8 ((xs.set j y).getD i 0)) := fun i hi => by
  by_cases e : j = i
  · subst e
    rw [World.cell?_setCell_same _ _ _ (h j hj)]
    simp [List.getD, hn, hj]
  · rw [World.cell?_setCell_other (h := by intro h; injection h with _ h; exact e h), h i hi]
    simp [List.getD, List.getElem?_set_ne e]
theorem bytes8_set {xs : List Int} (h : Bytes8 xs) (j : Nat) {y : Int} (hy : 0 ≤ y ∧ y ≤ 255) : Bytes8 (xs.set j y) := fun x hx => by
  rcases List.mem_or_eq_of_mem_set hx with h1 | rfl
  · exact h x h1
  · exact hy
theorem bytes8_take {xs : List Int} (h : Bytes8 xs) (k : Nat) : Bytes8 (xs.take k) := fun x hx => h x (List.mem_of_mem_take hx)
/-- Five rows of bytes. -/
structure FiveS (w : World) (v : Nat → Value) (xs : Nat → List Int) : Prop where
  src : ∀ i, i < 5 → Src w (v i) (xs i)
  b8 : ∀ i, i < 5 → Bytes8 (xs i)
  len : ∀ i, i < 5 → (xs i).length ≤ 20000
theorem FiveS.turn {w w' : World} {v : Nat → Value} {xs : Nat → List Int} (h : FiveS w v xs) (t : Turn (fun _ => False) w w') : FiveS w' v xs := ⟨fun i hi => (h.src i hi).turn t (fun _ _ => id), h.b8, h.len⟩
end Go.Proofs.Ytokjlhpkjebnkaa
