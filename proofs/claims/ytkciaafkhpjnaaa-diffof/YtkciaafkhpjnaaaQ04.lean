/- Own texts, packed: El. No statement is proved here. -/
import Derived.Test.YtkciaafkhpjnaaaQ03
import Derived.Laws.StructEq
import Derived.Lib.OthersKept
import Derived.Deep.MidRow
import Derived.Great.BuildSlice
import Derived.Lib.AppendStr
import Derived.Laws.AppendOwnNone
namespace Go.Proofs.Ytkciaafkhpjnaaa
set_option maxRecDepth 100000
open Go.RowKit
set_option linter.unusedVariables false
set_option linter.unusedSimpArgs false


theorem turn_setCells (B : Nat) : ∀ (vs : List Value) (o : Nat) (w : World), Turn (fun q => q = B) w (w.setCells B o vs)
  | [], _, w => Turn.refl _ w
  | v :: vs, o, w => by
    have h := (Turn.refl (fun q => q = B) w).setCell (p := ⟨B, o, none⟩) (fun _ => rfl) v
    exact h.trans (turn_setCells B vs (o + 1) _) (fun _ _ h => h)
theorem rangeAt_turn {w w' : World} {S : Nat → Prop} {B o : Nat} {cs : List Value} (h : w.rangeAt B o cs) (ht : Turn S w w') (hB : ¬ S B) : w'.rangeAt B o cs := fun j v hv => by
  have := h j v hv
  exact (ht.cell (p := ⟨B, o + j, none⟩) (World.block_lt_of_cell? w _ this) hB).trans this
theorem heap_setCells (b : Nat) (T : TypeId) : ∀ (vs : List Value) (o : Nat) (w : World) (cs : List Value), w.heap[b]? = some (.cells cs.toArray T (0, 0)) → o + vs.length ≤ cs.length →
    (w.setCells b o vs).heap[b]? = some (.cells (cs.take o ++ vs ++ cs.drop (o + vs.length)).toArray T (0, 0))
  | [], o, w, cs, h, _ => by simp [World.setCells, h]
  | v :: vs, o, w, cs, h, hl => by
    have hl' : o + vs.length + 1 ≤ cs.length := by simpa [Nat.add_assoc] using hl
    have h1 := heap_setCell_same w b o cs.toArray T v h
    rw [show cs.toArray.setIfInBounds o v = (cs.set o v).toArray by simp] at h1
    have := heap_setCells b T vs (o + 1) _ _ h1 (by simp; omega)
    simp only [World.setCells]
    rw [this]
    congr 2
    apply congrArg List.toArray
    rw [List.take_succ_eq_append_getElem (by simp; omega), List.take_set_of_le (Nat.le_refl _), List.drop_set_of_lt (by omega)]
    simp [Nat.add_assoc, Nat.add_comm 1]
/-- A new variable of type T that holds these cells. -/
structure Box (w0 w' : World) (T : TypeId) (cs : List Value) : Prop where
  heap : w'.heap[w0.heap.size]? = some (.cells cs.toArray T (0, 0))
  size : w'.heap.size = w0.heap.size + 1
  turn : Turn (fun _ => False) w0 w'
theorem box_alloc (w : World) (T : TypeId) (cs : List Value) : Box w (w.alloc (.cells cs.toArray T)) T cs := ⟨heap_alloc_new w _, by simp, (Turn.refl _ w).alloc _⟩
theorem size_setCells : ∀ (vs : List Value) (o : Nat) (w : World) (b : Nat), (w.setCells b o vs).heap.size = w.heap.size := by
  intro vs
  induction vs with
  | nil => intro o w b; rfl
  | cons v vs ih => intro o w b; simp only [World.setCells]; rw [ih]; simp
theorem box_set (w : World) (T : TypeId) (zs cs : List Value) (hl : zs.length = cs.length) : Box w ((w.alloc (.cells zs.toArray T)).setCells w.heap.size 0 cs) T cs := by
  have t := turn_setCells w.heap.size cs 0 (w.alloc (.cells zs.toArray T))
  refine ⟨?_, ?_, ((Turn.refl (fun _ => False) w).alloc _).trans t (fun q hq e => by omega)⟩
  · have := heap_setCells w.heap.size T cs 0 _ zs (heap_alloc_new w _) (by omega)
    rw [this]
    simp [hl]
  · rw [size_setCells]; simp
section
variable {w0 w w' : World} {T : TypeId} {cs : List Value}
theorem Box.range (h : Box w0 w' T cs) : w'.rangeAt w0.heap.size 0 cs := fun j v hj => by rw [Nat.zero_add, cell_of_row w' _ j _ T (0, 0) h.heap]; simpa using hj
theorem Box.cell (h : Box w0 w' T cs) (j : Nat) (v : Value) (hj : cs[j]? = some v) : w'.cell? ⟨w0.heap.size, j, none⟩ = some v := by rw [cell_of_row w' _ j _ T (0, 0) h.heap]; simpa using hj
end
theorem there_row {w : World} {b : Nat} {T : TypeId} {cs : List Value} (h : w.heap[b]? = some (.cells cs.toArray T (0, 0))) : w.there b 0 cs.length := fun j hj => by
  refine ⟨?_, frozen_of_row w b _ _ T h⟩
  rw [cell_of_row w b _ _ T (0, 0) h]
  simp [hj]
theorem all_oneCell_toArray {cs : List Value} (h : ∀ v ∈ cs, v.oneCell' = true) : cs.toArray.all (fun v => v.oneCell') = true := by
  rw [Array.all_eq_true]
  intro i hi
  exact h _ (by simp)
section
variable {P : Program} {n : Nat} {ops : Array Oper} {Q : Exit → Act → World → Prop} {a : Act} {o : Oper} {rest : List Oper}
end
theorem exec_load_mid {P : Program} (ev : Operand → Value) (op : Oper) (ty : TypeId) (x : Operand) (ho : op.op = .load ty x) (b o : Nat) (hx : ev x = .pointer (some ⟨b, o, none⟩)) (cs : List Value) (d : TypeDesc) (w : World) (hc : w.rangeAt b o cs)
    (hu : P.underlying ty = some d) (hd : d.isRow = true) (hi : (P.info? ty).map (·.size) = some cs.length) : (execOp ev op).run P w = .ok (.value (.agg cs.toArray)) w := by
  unfold execOp
  simp only [ho, hx, Instr.loadAt, Instr.sureAddr, Sem.run_bind, Sem.run_pure, Result.andThen_ok, run_loadVar_mid w b o ty cs d hc hu hd hi]
theorem list_exec {P : Program} {ops : Array Oper} {Q : Exit → Act → World → Prop} {rest : List Oper} {o : Oper} {a : Act} {w : World} (hgd : o.guard = none) (v : Value) (w' : World) (he : (execOp a.eval o).run P w = .ok (.value v) w') (h : wpList P ops Q rest (a.put o.dst v) w') : wpList P ops Q (o :: rest) a w :=
  wpList_plain hgd fun K hK => by unfold Oper.wp; rw [he]; exact hK _ _ h
theorem oper_exec {P : Program} {op : Oper} {a : Act} {w : World} {K : Act → World → Prop} {Q : Exit → Act → World → Prop} (v : Value) (w' : World) (h : (execOp a.eval op).run P w = .ok (.value v) w') (hk : K (a.put op.dst v) w') : op.wp P a w K Q := by
  unfold Oper.wp
  rw [h]
  exact hk
theorem exec_append {P : Program} (ev : Operand → Value) (op : Oper) (s x : Operand) (t : TypeId) (ho : op.op = .call { callee := .builtin .append, args := #[s, x], argTypes := #[t, t] }) (v v2 v' : Value) (w w' : World) (hs : ev s = v) (hx : ev x = v2)
    (hrun : (Builtin.append_ #[t, t] op.type #[v, v2]).run P w = .ok v' w') : (execOp ev op).run P w = .ok (.value v') w' := by
  unfold execOp
  simp only [ho, resolve, invoke, builtin, Sem.run_bind, Sem.run_pure, Result.andThen_ok, List.map_toArray, List.map_cons, List.map_nil, hs, hx, hrun]
def Still (p : Prop) : Prop := p
theorem still {p : Prop} (h : Still p) : p := h
theorem fold_fill : ∀ (l : List Value) (k : Nat) (a : Array Value), k + l.length ≤ a.size → (l.zipIdx k).foldl (fun cs (x : Value × Nat) => cs.setIfInBounds (0 + x.2) x.1) a = (a.toList.take k ++ l ++ a.toList.drop (k + l.length)).toArray
  | [], k, a, h => by simp
  | c :: l, k, a, h => by
    simp only [List.length_cons] at h
    rw [List.zipIdx_cons, List.foldl_cons, fold_fill l (k + 1) _ (by simp; omega)]
    congr 1
    simp only [Nat.zero_add, Array.toList_setIfInBounds, List.length_cons]
    rw [List.take_set, List.drop_set_of_lt (by omega)]
    have e1 : (a.toList.take (k + 1)).set k c = a.toList.take k ++ [c] := by
      have hk : k < a.toList.length := by simp; omega
      have hl : (a.toList.take k).length = k := by simp; omega
      rw [List.take_succ_eq_append_getElem hk, List.set_append_right k c (by omega), hl, Nat.sub_self]
      rfl
    rw [e1, show k + 1 + l.length = k + (l.length + 1) by omega]
    simp
theorem fill_one (size : Nat) (a cs : Array Value) (h1 : cs.size = size) (h2 : a.size = size) : Instr.fill (fun i => some (i * size, size)) a [(0, .agg cs)] = some cs := by
  have hc : (Value.agg cs).cells = cs := rfl
  have h0 : ¬ (cs.size ≠ size || decide (0 * size + cs.size > a.size)) = true := by simp [h1, h2]
  simp only [Instr.fill, hc, Nat.zero_mul]
  rw [if_neg (by simpa using h0)]
  congr 1
  have h3 := fold_fill cs.toList 0 a (by simp [h1, h2])
  have h4 : cs.zipIdx.foldl (fun cs (x : Value × Nat) => cs.setIfInBounds (0 + x.2) x.1) a = (cs.toList.zipIdx 0).foldl (fun cs (x : Value × Nat) => cs.setIfInBounds (0 + x.2) x.1) a := by
    rw [← Array.foldl_toList, Array.toList_zipIdx]
  rw [h3] at h4
  refine Eq.trans h4 ?_
  apply Array.ext'
  simp [h1, h2]
theorem toList_inj {a b : ByteArray} (h : a.toList = b.toList) : a = b := by
  rw [ByteArray.toList_eq, ByteArray.toList_eq] at h
  cases a; cases b
  simpa [Array.toList_inj] using h
theorem name_eq (a b : ByteArray) : (a.toList == b.toList) = decide (a = b) := by
  by_cases h : a = b
  · subst h; simp
  · rw [decide_eq_false h]
    cases he : (a.toList == b.toList)
    · rfl
    · exact absurd (toList_inj (by simpa using he)) h

/-- What an element is. -/
structure El where
  id : Int
  kind : Int
  par : Int
  ord : Int
  name : ByteArray
  frm : Int
  to : Int
  ev : ByteArray
  gd : ByteArray
  ac : ByteArray
deriving DecidableEq
def El.vals (o : El) : List Value := [.int .i64 o.id, .int .u8 o.kind, .int .i64 o.par, .int .i64 o.ord, .string o.name, .int .i64 o.frm, .int .i64 o.to, .string o.ev, .string o.gd, .string o.ac]
def El.at (id : Int) : El := ⟨id, 0, 0, 0, ByteArray.empty, 0, 0, ByteArray.empty, ByteArray.empty, ByteArray.empty⟩
def el0 : El := El.at 0
theorem El.vlen (o : El) : o.vals.length = 10 := rfl
theorem El.vals_one (o : El) : ∀ v ∈ o.vals, v.oneCell' = true := fun v hv => by
  simp only [El.vals, List.mem_cons, List.not_mem_nil, or_false] at hv
  rcases hv with rfl | rfl | rfl | rfl | rfl | rfl | rfl | rfl | rfl | rfl <;> rfl
def I64 (n : Int) : Prop := -9223372036854775808 ≤ n ∧ n ≤ 9223372036854775807
/-- An element that is one of the language's. -/
structure El.Ok (o : El) : Prop where
  id : I64 o.id
  kind : 0 ≤ o.kind ∧ o.kind ≤ 255
  par : I64 o.par
  ord : I64 o.ord
  frm : I64 o.frm
  to : I64 o.to
def elsV (l : List El) : List Value := l.flatMap El.vals
theorem elsV_len (l : List El) : (elsV l).length = 10 * l.length := by
  induction l with
  | nil => rfl
  | cons o l ih =>
    simp only [elsV, List.flatMap_cons, List.length_append, List.length_cons] at ih ⊢
    rw [ih, o.vlen]; omega
theorem elsV_app (a b : List El) : elsV (a ++ b) = elsV a ++ elsV b := by simp [elsV]
theorem elsV_one (rs : List El) : ∀ v ∈ elsV rs, v.oneCell' = true := fun v hv => by
  simp only [elsV, List.mem_flatMap] at hv
  obtain ⟨o, _, h⟩ := hv
  exact o.vals_one v h
theorem elsV_part : ∀ (l : List El) (k : Nat), k < l.length → ((elsV l).drop (k * 10)).take 10 = (l.getD k el0).vals := by
  intro l
  induction l with
  | nil => intro k hk; simp at hk
  | cons o l ih =>
    intro k hk
    have h1 := o.vlen
    cases k with
    | zero =>
      simp only [elsV, List.flatMap_cons, Nat.zero_mul, List.drop_zero, List.getD_cons_zero]
      rw [List.take_append_of_le_length (by omega), List.take_of_length_le (by omega)]
    | succ k =>
      have := ih k (by simpa using hk)
      simp only [elsV, List.flatMap_cons, List.getD_cons_succ] at this ⊢
      rw [← this, List.drop_append, h1, List.drop_of_length_le (by omega), List.nil_append]
      congr 2
      omega
theorem elsV_set : ∀ (l : List El) (o : El) (k : Nat), k < l.length → elsV (l.set k o) = (elsV l).take (k * 10) ++ o.vals ++ (elsV l).drop (k * 10 + 10) := by
  intro l o
  induction l with
  | nil => intro k hk; simp at hk
  | cons x l ih =>
    intro k hk
    have h1 := x.vlen
    cases k with
    | zero =>
      simp only [List.set_cons_zero, elsV, List.flatMap_cons, Nat.zero_mul, List.take_zero, List.nil_append, Nat.zero_add]
      rw [List.drop_append, List.drop_of_length_le (by omega), h1]
      simp
    | succ k =>
      have := ih k (by simpa using hk)
      simp only [List.set_cons_succ, elsV, List.flatMap_cons] at this ⊢
      rw [this, List.take_append, List.drop_append, h1, List.take_of_length_le (show x.vals.length ≤ (k + 1) * 10 by omega), List.drop_of_length_le (show x.vals.length ≤ (k + 1) * 10 + 10 by omega)]
      rw [show (k + 1) * 10 - 10 = k * 10 by omega, show (k + 1) * 10 + 10 - 10 = k * 10 + 10 by omega]
      simp
theorem el_info : (Try.prog.info? 38).map (·.size) = some 10 := by kernel_rfl
theorem el_infop : (Try.prog.info? 38).map (fun i => (i.zero, i.size, i.bytes)) = some (some (.agg el0.vals.toArray), 10, 112) := by kernel_rfl
theorem el_zero (w : World) : (zeroValue 38).run Try.prog w = .ok (.agg el0.vals.toArray) w := by kernel_rfl
theorem el_build0 (w : World) : (Instr.build 38 #[]).run Try.prog w = .ok (.agg el0.vals.toArray) w := by kernel_rfl
/-- A row of elements as a value. -/
def RowV (w : World) (v : Value) (l : List El) : Prop :=
  (v = .slice none 0 0 ∧ l = []) ∨ ∃ g o c, v = .slice (some ⟨g, o, none⟩) l.length c ∧ l.length ≤ c ∧ (0 < l.length → g < w.heap.size) ∧ ∀ k, k < l.length → w.rangeAt g (o + k * 10) (l.getD k el0).vals
theorem RowV.turn {w w' : World} {v : Value} {l : List El} {G : Nat → Prop} (h : RowV w v l) (t : Turn G w w') (hn : ∀ q, v.ownBlock = some q → ¬ G q) : RowV w' v l := by
  rcases h with ⟨h1, h2⟩ | ⟨g, o, c, h1, h2, h3, h4⟩
  · exact .inl ⟨h1, h2⟩
  · exact .inr ⟨g, o, c, h1, h2, fun h0 => Nat.lt_of_lt_of_le (h3 h0) t.size, fun k hk => rangeAt_turn (h4 k hk) t (hn g (by rw [h1]; rfl))⟩
theorem RowV.form {w : World} {v : Value} {l : List El} (h : RowV w v l) : ∃ a c, v = .slice a l.length c := by
  rcases h with ⟨h1, rfl⟩ | ⟨g, o, c, h1, _⟩
  · exact ⟨_, _, h1⟩
  · exact ⟨_, _, h1⟩
theorem RowV.one {w : World} {a : Option Addr} {n c : Nat} {l : List El} (h : RowV w (.slice a n c) l) (hn : l.length = n) (k : Nat) (hk : k < n) : ∃ g o, a = some ⟨g, o, none⟩ ∧ n ≤ c ∧ w.rangeAt g (o + k * 10) (l.getD k el0).vals := by
  subst hn
  rcases h with ⟨h1, rfl⟩ | ⟨g, o, c', h1, h2, h3, h4⟩
  · simp at hk
  · injection h1 with q1 q2 q3
    exact ⟨g, o, q1, by omega, h4 k hk⟩
theorem own_cells {w : World} {g : Nat} {l : List El} {ex : List Value} (h : w.heap[g]? = some (.cells (elsV l ++ ex).toArray 38 (0, 0))) (k : Nat) (hk : k < l.length) : w.rangeAt g (0 + k * 10) (l.getD k el0).vals := fun j v hj => by
  have hv := elsV_len l
  rw [cell_of_row w g _ _ 38 (0, 0) h]
  rw [← elsV_part l k hk, List.getElem?_take] at hj
  split at hj
  · rename_i h34
    rw [List.getElem?_drop] at hj
    have hl := (List.getElem?_eq_some_iff.1 hj).1
    simp only [List.getElem?_toArray]
    rw [List.getElem?_append_left (by omega), Nat.zero_add]
    exact hj
  · cases hj
theorem own_rowV {w : World} {base : Nat} {v : Value} {l : List El} (h : w.ownsRow base 38 10 v l.length (elsV l)) : RowV w v l := by
  rcases h.2 with ⟨rfl, h0⟩ | ⟨g, cap, cur, rfl, _, hg, hnc, _, hcs, ht⟩
  · exact .inl ⟨rfl, List.eq_nil_of_length_eq_zero h0⟩
  · have hg' : w.heap[g]? = some (.cells (elsV l ++ cur.toList.drop (l.length * 10)).toArray 38 (0, 0)) := by rw [hg, ← ht, List.take_append_drop]
    exact .inr ⟨g, 0, cap, rfl, hnc, fun _ => (Array.getElem?_eq_some_iff.1 hg').1, fun k hk => own_cells hg' k hk⟩
theorem RowV.cells {w : World} {x : Addr} {n c : Nat} {l : List El} (h : RowV w (.slice (some x) n c) l) (hn : l.length = n) : ∀ j u, (elsV l)[j]? = some u → w.cell? (x.add j) = some u := fun j u hj => by
  have hl := elsV_len l
  have hjl := (List.getElem?_eq_some_iff.1 hj).1
  have hk : j / 10 < l.length := by omega
  obtain ⟨g, o, h1, _, h4⟩ := h.one hn (j / 10) (by omega)
  injection h1 with q1
  subst q1
  have h5 := h4 (j % 10) u (by
    rw [← elsV_part l (j / 10) hk, List.getElem?_take, if_pos (by omega), List.getElem?_drop, show j / 10 * 10 + j % 10 = j by omega]
    exact hj)
  rw [Addr.add_mid]
  rwa [show o + j / 10 * 10 + j % 10 = o + j by omega] at h5
/-- append(v, u...) of elements, where v is the call's own. -/
theorem app_els (w : World) (base : Nat) (t ty : TypeId) (ht : Try.prog.underlying t = some (.slice 38)) (v u : Value) (l1 l2 : List El) (ho : w.ownsRow base 38 10 v l1.length (elsV l1)) (hu : RowV w u l2) (hb : base ≤ w.heap.size) (hl : l1.length + l2.length ≤ 1000000) :
    ∃ v' w', (Builtin.append_ #[t, t] ty #[v, u]).run Try.prog w = .ok v' w' ∧ w'.ownsRow base 38 10 v' (l1 ++ l2).length (elsV (l1 ++ l2)) ∧ Turn (fun q => v.ownBlock = some q) w w' := by
  obtain ⟨i0, hi, hz0, hz1, hz2⟩ := info_parts el_infop
  have hlen : (l1 ++ l2).length = l1.length + l2.length := by simp
  rcases hu with ⟨rfl, rfl⟩ | hq
  · refine ⟨v, w, ?_, by simpa using ho, Turn.refl _ _⟩
    rcases ho.2 with ⟨rfl, h0⟩ | ⟨g, cap, cur, rfl, _, _, hnc, _⟩
    · simp [Builtin.append_, run_underlying ht, sizeOf, typeInfo, hi, Builtin.lenOf, Builtin.firstCells, h0]
    · simp [Builtin.append_, run_underlying ht, sizeOf, typeInfo, hi, Builtin.lenOf, Builtin.firstCells, hnc, storeCells]
  · have hu : RowV w u l2 := .inr hq
    obtain ⟨g, o, c, rfl, hc, _, h4⟩ := hq
    obtain ⟨v', w', hr, q1, q2, q3⟩ := run_append_own (P := Try.prog) w base t ty 38 i0 _ 10 112 ht hi hz0 hz1 hz2 (by rfl) (by decide) v l1.length _ ho ⟨g, o, none⟩ l2.length c (elsV l2) (by rw [elsV_len]; omega) (hu.cells rfl) (elsV_one l2) (by unfold maxLen; omega) (by omega) hb
    refine ⟨v', w', hr, by rw [hlen, elsV_app]; exact q1, (Turn.refl (fun q => v.ownBlock = some q) w).grown q2 (fun k h _ => h)⟩
theorem own_slice24 {w : World} {base : Nat} {v : Value} {n : Nat} {xs : List Value} (h : w.ownsRow base 38 10 v n xs) : ∃ a c, v = .slice a n c := by
  rcases h.2 with ⟨rfl, rfl⟩ | ⟨g, cap', _, rfl, _⟩
  · exact ⟨_, _, rfl⟩
  · exact ⟨_, _, rfl⟩
theorem own_rows_turn {w w' : World} {base : Nat} {v : Value} {n : Nat} {xs : List Value} {G : Nat → Prop} (h : w.ownsRow base 38 10 v n xs) (t : Turn G w w') (hn : ∀ k, v.ownBlock = some k → ¬ G k) : w'.ownsRow base 38 10 v n xs := t.owns h hn
/-- What turns only one's own row turns nothing old. -/
theorem turn_on {w0 w w' : World} {base : Nat} {v : Value} {n : Nat} {xs : List Value} (h : w.ownsRow base 38 10 v n xs) (hb : w0.heap.size ≤ base) (t : Turn (fun _ => False) w0 w) (t' : Turn (fun q => v.ownBlock = some q) w w') : Turn (fun _ => False) w0 w' :=
  t.trans t' (fun i hi hv => by have := (h.lt i hv).1; omega)
theorem build_one (t : TypeId) (ht : Try.prog.underlying t = some (.slice 38)) (r : El) (w : World) : (Instr.buildSlice t 1 #[(0, .agg r.vals.toArray)]).run Try.prog w = .ok (.slice (some ⟨w.heap.size, 0, none⟩) 1 1) (w.alloc (.cells r.vals.toArray 38)) := by
  obtain ⟨i0, hi, hz0, hz1, hz2⟩ := info_parts el_infop
  refine run_buildSlice (P := Try.prog) w t 38 1 _ _ i0 _ ht hi hz0 (by rw [hz1]; decide) (by rw [hz1]; decide) ?_
  rw [hz1]
  exact fill_one 10 _ _ (by simp [El.vlen]) (by simp [el0, El.vlen, El.vals, El.at])
theorem exec_build_one (ev : Operand → Value) (op : Oper) (y : Operand) (t : TypeId) (ht : Try.prog.underlying t = some (.slice 38)) (ho : op.op = .buildSlice t 1 #[(0, y)]) (r : El) (hy : ev y = .agg r.vals.toArray) (w : World) : (execOp ev op).run Try.prog w = .ok (.value (.slice (some ⟨w.heap.size, 0, none⟩) 1 1)) (w.alloc (.cells r.vals.toArray 38)) := by
  unfold execOp
  simp only [ho, List.map_toArray, List.map_cons, List.map_nil, hy, Sem.run_bind, Sem.run_pure, build_one t ht r, Result.andThen_ok]
theorem one_rowV {w : World} (r : El) : RowV (w.alloc (.cells r.vals.toArray 38)) (.slice (some ⟨w.heap.size, 0, none⟩) 1 1) [r] := by
  have hb := box_alloc w 38 r.vals
  refine .inr ⟨w.heap.size, 0, 1, rfl, Nat.le_refl _, fun _ => by rw [hb.size]; omega, fun k hk => ?_⟩
  obtain rfl : k = 0 := by simpa using hk
  simpa using hb.range
/-- out = append(out, e): all in one. -/
theorem app_one (w : World) (base : Nat) (t ty : TypeId) (ht : Try.prog.underlying t = some (.slice 38)) (v : Value) (l1 : List El) (r : El) (ho : w.ownsRow base 38 10 v l1.length (elsV l1)) (hb : base ≤ w.heap.size) (hl : l1.length + 1 ≤ 1000000) :
    ∃ v' w', (Builtin.append_ #[t, t] ty #[v, .slice (some ⟨w.heap.size, 0, none⟩) 1 1]).run Try.prog (w.alloc (.cells r.vals.toArray 38)) = .ok v' w' ∧ w'.ownsRow base 38 10 v' (l1 ++ [r]).length (elsV (l1 ++ [r])) ∧ Turn (fun q => v.ownBlock = some q) w w' ∧ ∃ a c, v' = .slice a (l1.length + 1) c := by
  have tb := (box_alloc w 38 r.vals).turn
  obtain ⟨v', w', hr, h1, h2⟩ := app_els _ base t ty ht v _ l1 [r] (own_rows_turn ho tb (fun _ _ => id)) (one_rowV (w := w) r) (Nat.le_trans hb tb.size) (by simpa using hl)
  refine ⟨v', w', hr, h1, (tb.mono (fun _ _ h => h.elim)).trans h2 (fun _ _ h => h), ?_⟩
  simpa using own_slice24 h1
theorem el_fields : Try.prog.fieldsOf 38 = #[⟨"ID", 3, 0, false, "", "", 0⟩, ⟨"Kind", 5, 1, false, "", "", 8⟩, ⟨"Parent", 3, 2, false, "", "", 16⟩, ⟨"Order", 3, 3, false, "", "", 24⟩, ⟨"Name", 9, 4, false, "", "", 32⟩, ⟨"From", 3, 5, false, "", "", 48⟩, ⟨"To", 3, 6, false, "", "", 56⟩, ⟨"Event", 9, 7, false, "", "", 64⟩, ⟨"Guard", 9, 8, false, "", "", 80⟩, ⟨"Action", 9, 9, false, "", "", 96⟩] := by kernel_rfl
theorem run_agg3 (w : World) : (isAgg 3).run Try.prog w = .ok false w := by kernel_rfl
theorem run_agg5 (w : World) : (isAgg 5).run Try.prog w = .ok false w := by kernel_rfl
theorem run_agg9 (w : World) : (isAgg 9).run Try.prog w = .ok false w := by kernel_rfl
theorem part_at (t : TypeId) (ha : ∀ w, (isAgg t).run Try.prog w = .ok false w) (o : El) (k : Nat) (v : Value) (hk : o.vals[k]? = some v) (w : World) : (part t o.vals.toArray k).run Try.prog w = .ok v w := by
  unfold part
  simp [Sem.run_bind, ha, hk]
/-- Two elements are compared. -/
theorem run_eql_el (o1 o2 : El) (w : World) : (binOp .eql 38 (.agg o1.vals.toArray) (.agg o2.vals.toArray)).run Try.prog w = .ok (.bool (decide (o1 = o2))) w := by
  have hu : Try.prog.underlying 38 = some (.struct (Try.prog.fieldsOf 38)) := by rw [el_fields]; kernel_rfl
  have main : (Op.equalIn (9999 + 1) 38 (.agg o1.vals.toArray) (.agg o2.vals.toArray)).run Try.prog w = .ok (decide (o1 = o2)) w := by
    rw [run_equalIn_struct w 9999 38 _ _ hu (by kernel_rfl), el_fields]
    have eI := fun a b : Int => run_equalIn_int (P := Try.prog) w 9998 3 .i64 .i64 a b Try.underlying3
    have eU := fun a b : Int => run_equalIn_int (P := Try.prog) w 9998 5 .u8 .u8 a b Try.underlying5
    have eS : ∀ a b : ByteArray, (Op.equalIn (9998 + 1) 9 (.string a) (.string b)).run Try.prog w = .ok (decide (a = b)) w := fun a b => by rw [← name_eq]; exact run_equalIn_string w 9998 9 a b Try.underlying9
    have p := fun (t k : Nat) (v : Value) (ha : ∀ w, (isAgg t).run Try.prog w = .ok false w) (o : El) (hk : o.vals[k]? = some v) => part_at t ha o k v hk w
    simp only [Op.eqFields, Sem.run_bind, Sem.run_ite, p 3 0 _ run_agg3 o1 rfl, p 3 0 _ run_agg3 o2 rfl, p 5 1 _ run_agg5 o1 rfl, p 5 1 _ run_agg5 o2 rfl, p 3 2 _ run_agg3 o1 rfl, p 3 2 _ run_agg3 o2 rfl, p 3 3 _ run_agg3 o1 rfl, p 3 3 _ run_agg3 o2 rfl,
      p 9 4 _ run_agg9 o1 rfl, p 9 4 _ run_agg9 o2 rfl, p 3 5 _ run_agg3 o1 rfl, p 3 5 _ run_agg3 o2 rfl, p 3 6 _ run_agg3 o1 rfl, p 3 6 _ run_agg3 o2 rfl, p 9 7 _ run_agg9 o1 rfl, p 9 7 _ run_agg9 o2 rfl, p 9 8 _ run_agg9 o1 rfl, p 9 8 _ run_agg9 o2 rfl, p 9 9 _ run_agg9 o1 rfl, p 9 9 _ run_agg9 o2 rfl, Result.andThen_ok, eI, eU, eS]
    obtain ⟨a0, a1, a2, a3, a4, a5, a6, a7, a8, a9⟩ := o1
    obtain ⟨b0, b1, b2, b3, b4, b5, b6, b7, b8, b9⟩ := o2
    simp only [El.mk.injEq]
    by_cases h0 : a0 = b0
    · by_cases h1 : a1 = b1
      · by_cases h2 : a2 = b2
        · by_cases h3 : a3 = b3
          · by_cases h4 : a4 = b4
            · by_cases h5 : a5 = b5
              · by_cases h6 : a6 = b6
                · by_cases h7 : a7 = b7
                  · by_cases h8 : a8 = b8
                    · by_cases h9 : a9 = b9
                      · simp [h0, h1, h2, h3, h4, h5, h6, h7, h8, h9]
                      · simp [h0, h1, h2, h3, h4, h5, h6, h7, h8, h9]
                    · simp [h0, h1, h2, h3, h4, h5, h6, h7, h8]
                  · simp [h0, h1, h2, h3, h4, h5, h6, h7]
                · simp [h0, h1, h2, h3, h4, h5, h6]
              · simp [h0, h1, h2, h3, h4, h5]
            · simp [h0, h1, h2, h3, h4]
          · simp [h0, h1, h2, h3]
        · simp [h0, h1, h2]
      · simp [h0, h1]
    · simp [h0]
  rw [run_eql_struct]
  have := main
  simp only [Nat.reduceAdd] at this
  rw [this]
  rfl
theorem run_neq_el (o1 o2 : El) (w : World) : (binOp .neq 38 (.agg o1.vals.toArray) (.agg o2.vals.toArray)).run Try.prog w = .ok (.bool (!decide (o1 = o2))) w := by
  have h := run_eql_el o1 o2 w
  rw [run_eql_struct] at h
  have hn : (binOp .neq 38 (.agg o1.vals.toArray) (.agg o2.vals.toArray)).run Try.prog w = ((Op.equalIn 10000 38 (.agg o1.vals.toArray) (.agg o2.vals.toArray)).run Try.prog w).andThen fun b w' => .ok (.bool (!b)) w' := by
    simp [binOp]
    rfl
  rw [hn]
  cases hq : (Op.equalIn 10000 38 (.agg o1.vals.toArray) (.agg o2.vals.toArray)).run Try.prog w with
  | ok b w2 =>
    rw [hq] at h
    simp only [Result.andThen_ok] at h ⊢
    injection h with h3 h4
    injection h3 with h5
    rw [h5, h4]
  | _ => rw [hq] at h; simp [Result.andThen] at h
theorem exec_eql_el (ev : Operand → Value) (op : Oper) {a b : Operand} (ho : op.op = .binOp .eql 38 a b 38) (o1 o2 : El) (w : World) (h1 : ev a = .agg o1.vals.toArray) (h2 : ev b = .agg o2.vals.toArray) : (execOp ev op).run Try.prog w = .ok (.value (.bool (decide (o1 = o2)))) w := by
  have hg : (eqGuard .eql 38 a b (.agg o1.vals.toArray) (.agg o2.vals.toArray)).run Try.prog w = .ok () w := by simp [eqGuard]
  unfold execOp
  simp only [ho, h1, h2, Sem.run_bind, run_eql_el o1 o2 w, hg, Result.andThen_ok, Sem.run_pure]
theorem exec_neq_el (ev : Operand → Value) (op : Oper) {a b : Operand} (ho : op.op = .binOp .neq 38 a b 38) (o1 o2 : El) (w : World) (h1 : ev a = .agg o1.vals.toArray) (h2 : ev b = .agg o2.vals.toArray) : (execOp ev op).run Try.prog w = .ok (.value (.bool (!decide (o1 = o2)))) w := by
  have hg : (eqGuard .neq 38 a b (.agg o1.vals.toArray) (.agg o2.vals.toArray)).run Try.prog w = .ok () w := by simp [eqGuard]
  unfold execOp
  simp only [ho, h1, h2, Sem.run_bind, run_neq_el o1 o2 w, hg, Result.andThen_ok, Sem.run_pure]
theorem getD_ext {a b : List El} (hl : a.length = b.length) (h : ∀ k, k < a.length → a.getD k el0 = b.getD k el0) : a = b := by
  apply List.ext_getElem hl
  intro i h1 h2
  have := h i h1
  simpa [List.getD, h1, h2] using this
theorem getD_mem {l : List El} {k : Nat} (h : k < l.length) : l.getD k el0 ∈ l := by
  have : l.getD k el0 = l[k] := by simp [List.getD, h]
  rw [this]
  exact List.getElem_mem _
theorem take_snoc (l : List El) (k : Nat) (h : k < l.length) : l.take (k + 1) = l.take k ++ [l.getD k el0] := by
  rw [List.take_succ_eq_append_getElem h]
  simp [List.getD, h]
theorem El.v0 (o : El) : o.vals[0]? = some (.int .i64 o.id) := rfl
theorem range0 {w : World} {g o : Nat} {x : El} (h : w.rangeAt g o x.vals) : w.cell? ⟨g, o, none⟩ = some (.int .i64 x.id) := h 0 _ rfl
end Go.Proofs.Ytkciaafkhpjnaaa
