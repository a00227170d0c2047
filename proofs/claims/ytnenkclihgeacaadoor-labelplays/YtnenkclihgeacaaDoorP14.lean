/- Own texts, packed: Lk, Rf, Rt, Fd. -/
import Derived.Test.YtnenkclihgeacaaDoorP09
import Derived.Test.YtnenkclihgeacaaDoorP13
import Derived.Laws.StructEq
import Derived.Lib.OthersKept
/- Own laws: a variable of many cells, its loads and stores; no statement is proved here. -/
namespace Go.Proofs.YtnenkclihgeacaaDoor
set_option maxRecDepth 100000
open Go.RowKit
set_option linter.unusedVariables false
set_option linter.unusedSimpArgs false

theorem heap_setCells (b : Nat) (T : TypeId) : ∀ (vs : List Value) (o : Nat) (w : World) (cs : List Value), w.heap[b]? = some (.cells cs.toArray T (0, 0)) → o + vs.length ≤ cs.length →
    (w.setCells b o vs).heap[b]? = some (.cells (cs.take o ++ vs ++ cs.drop (o + vs.length)).toArray T (0, 0))
  | [], o, w, cs, h, _ => by simp [World.setCells, h]
  | v :: vs, o, w, cs, h, hl => by
    have hl' : o + vs.length + 1 ≤ cs.length := by simpa [Nat.add_assoc] using hl
    have h1 := heap_setCell_same w b o cs.toArray T v h
    rw [show cs.toArray.setIfInBounds o v = (cs.set o v).toArray by simp] at h1
    have := heap_setCells b T vs (o + 1) _ _ h1 (by simp; omega)
    simp only [World.setCells]
    rw [this]
    congr 2
    apply congrArg List.toArray
    rw [List.take_succ_eq_append_getElem (by simp; omega), List.take_set_of_le (Nat.le_refl _), List.drop_set_of_lt (by omega)]
    simp [Nat.add_assoc, Nat.add_comm 1]
/-- A new variable of type T that holds these cells. -/
structure Box (w0 w' : World) (T : TypeId) (cs : List Value) : Prop where
  heap : w'.heap[w0.heap.size]? = some (.cells cs.toArray T (0, 0))
  size : w'.heap.size = w0.heap.size + 1
  turn : Turn (fun _ => False) w0 w'
theorem box_alloc (w : World) (T : TypeId) (cs : List Value) : Box w (w.alloc (.cells cs.toArray T)) T cs := ⟨heap_alloc_new w _, by simp, (Turn.refl _ w).alloc _⟩
theorem box_set (w : World) (T : TypeId) (zs cs : List Value) (hl : zs.length = cs.length) : Box w ((w.alloc (.cells zs.toArray T)).setCells w.heap.size 0 cs) T cs := by
  have t := turn_setCells w.heap.size cs 0 (w.alloc (.cells zs.toArray T))
  refine ⟨?_, ?_, ((Turn.refl (fun _ => False) w).alloc _).trans t (fun q hq e => by omega)⟩
  · have := heap_setCells w.heap.size T cs 0 _ zs (heap_alloc_new w _) (by omega)
    rw [this]
    simp [hl]
  · have : ∀ (vs : List Value) (o : Nat) (w : World) (b : Nat), (w.setCells b o vs).heap.size = w.heap.size := by
      intro vs
      induction vs with
      | nil => intro o w b; rfl
      | cons v vs ih => intro o w b; simp only [World.setCells]; rw [ih]; simp
    rw [this]; simp
section
variable {w0 w w' : World} {T : TypeId} {cs : List Value}
theorem Box.range (h : Box w0 w' T cs) : w'.rangeAt w0.heap.size 0 cs := fun j v hj => by rw [Nat.zero_add, cell_of_row w' _ j _ T (0, 0) h.heap]; simpa using hj
theorem Box.cell (h : Box w0 w' T cs) (j : Nat) (v : Value) (hj : cs[j]? = some v) : w'.cell? ⟨w0.heap.size, j, none⟩ = some v := by rw [cell_of_row w' _ j _ T (0, 0) h.heap]; simpa using hj
theorem Box.free (h : Box w0 w' T cs) (j : Nat) : w'.frozen? ⟨w0.heap.size, j, none⟩ = false := frozen_of_row w' _ j _ T h.heap
end
theorem there_row {w : World} {b : Nat} {T : TypeId} {cs : List Value} (h : w.heap[b]? = some (.cells cs.toArray T (0, 0))) : w.there b 0 cs.length := fun j hj => by
  refine ⟨?_, frozen_of_row w b _ _ T h⟩
  rw [cell_of_row w b _ _ T (0, 0) h]
  simp [hj]
section
variable {P : Program} {n : Nat} {ops : Array Oper} {Q : Exit → Act → World → Prop} {a : Act} {o : Oper} {rest : List Oper}
theorem list_box (w0 : World) (T : TypeId) (zs cs : List Value) (hl : zs.length = cs.length) (h1 : ∀ v ∈ cs, v.oneCell' = true) (hi : (P.info? T).map (·.size) = some cs.length)
    (hgd : o.guard = none) (x y : Operand) (ho : o.op = .store T x y) (hx : a.eval x = .pointer (some ⟨w0.heap.size, 0, none⟩)) (hy : a.eval y = .agg cs.toArray)
    (h : ∀ w', Box w0 w' T cs → wpList P ops Q rest (a.put o.dst undef) w') : wpList P ops Q (o :: rest) a (w0.alloc (.cells zs.toArray T)) :=
  wpList_store_mid hgd T x y ho w0.heap.size 0 cs.toArray hx hy (by have := there_row (heap_alloc_new w0 (.cells zs.toArray T)); rw [hl] at this; simpa using this) (by simpa using hi) (all_oneCell_toArray h1) (h _ (box_set w0 T zs cs hl))
end
theorem grown_of_turn {w w' : World} (h : Turn (fun _ => False) w w') : w.grownBy w' none := ⟨h.os, h.tape, h.output, h.size, fun k hk _ => h.block k hk id⟩
theorem turn_of_below {w w' : World} (h : Below w.heap.size w w') : Turn (fun _ => False) w w' := ⟨h.os, h.tape, h.output, h.size, fun k hk _ => h.block k hk⟩
theorem same_at : ∀ (xs ys : List Int), xs.length = ys.length → ((List.range xs.length).all fun i => xs.getD i 0 == ys.getD i 0) = (xs == ys)
  | [], [], _ => rfl
  | x :: xs, y :: ys, h => by
    have ih := same_at xs ys (by simpa using h)
    rw [List.length_cons, List.range_succ_eq_map, List.all_cons, List.all_map]
    simp only [List.getD_cons_zero, Function.comp_def, List.getD_cons_succ, ih]
    simp [List.cons_beq_cons]
  | [], _ :: _, h => by simp at h
  | _ :: _, [], h => by simp at h

theorem size5 : ∀ w, (sizeOf 5).run Tryd.prog w = .ok 1 w := fun w => by
  obtain ⟨i0, hi, hz0, hz1, hz2⟩ := info_parts Tryd.info5
  simp [sizeOf, typeInfo, hi, hz1]

theorem run_same (t : TypeId) (n : Nat) (ht : Tryd.prog.underlying t = some (.array n 5)) (xs ys : List Int) (hx : xs.length = n) (hy : ys.length = n) (w : World) :
    (binOp .eql t (.agg (xs.map (Value.int .u8)).toArray) (.agg (ys.map (Value.int .u8)).toArray)).run Tryd.prog w = .ok (.bool (xs == ys)) w := by
  have main : ∀ d, (Op.equalIn (d + 2) t (.agg (xs.map (Value.int .u8)).toArray) (.agg (ys.map (Value.int .u8)).toArray)).run Tryd.prog w = .ok (xs == ys) w := by
    intro d
    rw [← same_at xs ys (hx.trans hy.symm), hx, List.range_eq_range', Op.equalIn]
    simp only [Sem.run_bind, run_underlying ht, Result.andThen_ok, size5, Std.Legacy.Range.forIn_eq_forIn_range', Std.Legacy.Range.size, Nat.sub_zero, Nat.add_sub_cancel, Nat.div_one]
    have hl : ∀ i ∈ List.range' 0 n 1, i < n := fun i hi => by simpa using (List.mem_range'_1.1 hi).2
    generalize List.range' 0 n 1 = l at hl ⊢
    induction l with
    | nil => simp
    | cons i l ih =>
      have hi : i < n := hl i (by simp)
      have px : (part 5 (xs.map (Value.int .u8)).toArray (i * 1)).run Tryd.prog w = .ok (.int .u8 (xs.getD i 0)) w := by
        simp [part, isAgg, run_underlying Tryd.underlying5, List.getD, List.getElem?_eq_getElem (show i < xs.length by omega)]
      have py : (part 5 (ys.map (Value.int .u8)).toArray (i * 1)).run Tryd.prog w = .ok (.int .u8 (ys.getD i 0)) w := by
        simp [part, isAgg, run_underlying Tryd.underlying5, List.getD, List.getElem?_eq_getElem (show i < ys.length by omega)]
      have pe : (Op.equalIn (d + 1) 5 (.int .u8 (xs.getD i 0)) (.int .u8 (ys.getD i 0))).run Tryd.prog w = .ok (xs.getD i 0 == ys.getD i 0) w :=
        run_equalIn_int w d 5 .u8 .u8 _ _ Tryd.underlying5
      simp only [List.forIn_cons, Sem.run_bind, px, py, pe, Result.andThen_ok, List.all_cons]
      cases hb : (xs.getD i 0 == ys.getD i 0)
      · simp
      · simp only [Bool.not_true, Bool.false_eq_true, if_false, Sem.run_pure, Result.andThen_ok, Bool.true_and]
        exact ih fun j hj => hl j (by simp [hj])
  rw [run_eql_struct, main 9998]
  rfl
theorem exec_load_mid {P : Program} (ev : Operand → Value) (op : Oper) (ty : TypeId) (x : Operand) (ho : op.op = .load ty x) (b o : Nat) (hx : ev x = .pointer (some ⟨b, o, none⟩)) (cs : List Value) (d : TypeDesc) (w : World) (hc : w.rangeAt b o cs)
    (hu : P.underlying ty = some d) (hd : d.isRow = true) (hi : (P.info? ty).map (·.size) = some cs.length) : (execOp ev op).run P w = .ok (.value (.agg cs.toArray)) w := by
  unfold execOp
  simp only [ho, hx, Instr.loadAt, Instr.sureAddr, Sem.run_bind, Sem.run_pure, Result.andThen_ok, run_loadVar_mid w b o ty cs d hc hu hd hi]

theorem list_exec {P : Program} {ops : Array Oper} {Q : Exit → Act → World → Prop} {rest : List Oper} {o : Oper} {a : Act} {w : World} (hgd : o.guard = none) (v : Value) (w' : World) (he : (execOp a.eval o).run P w = .ok (.value v) w') (h : wpList P ops Q rest (a.put o.dst v) w') : wpList P ops Q (o :: rest) a w :=
  wpList_plain hgd fun K hK => by unfold Oper.wp; rw [he]; exact hK _ _ h
def Still (p : Prop) : Prop := p
theorem still {p : Prop} (h : Still p) : p := h
theorem wp_drop {P : Program} {c : Code} {K : Act → World → Prop} {Q' : Exit → Act → World → Prop} {a : Act} {w : World} (h : c.wp P (Exit.then K fun _ _ _ => False) a w) : c.wp P (Exit.then K Q') a w := wp_mono h (fun e a w he => by cases e <;> first | exact he | exact he.elim)
theorem wp_via {P : Program} {c : Code} {K : Act → World → Prop} {a : Act} {w : World} (A : Act → World → Prop) (h : c.wp P (Exit.then A fun _ _ _ => False) a w) (hk : ∀ a w, A a w → K a w) : c.wp P (Exit.then K fun _ _ _ => False) a w := wp_mono h (fun e a w he => by cases e <;> first | exact hk _ _ he | exact he.elim)
theorem JC.turn {w w' : World} {F G : Nat → Prop} {J D : Nat} {d : DiskM} {L : Nat} {C : List (List Int)} {n : Nat} (h : JC w F J D d L C n) (t : Turn G w w') (hF : ∀ k, F k → ¬ G k) (hJ : ¬ G J) : JC w' F J D d L C n :=
  { h with jh := ⟨h.jh.dh.turn t hF, h.jh.jat.turn t hJ, h.jh.nJ, h.jh.big⟩ }
theorem equal_same (v1 v2 : Value) (xs : List Int) (w : World) (h1 : Reads w v1 xs) (h2 : Reads w v2 xs) : Calls Tryd.prog 65 #[v1, v2] w fun e w' => e = .returned (.bool true) ∧ w' = w := by
  have q1 := h1.conv
  have q2 := h2.conv
  generalize strOfNums xs = s at q1 q2
  clear h1 h2
  go_enter Tryd.func65, Tryd.ntmps65
  go_wp2_with fail
  go_ret
  exact ⟨by first | rfl | simp, rfl⟩
theorem equalIn_bytes (t : TypeId) (n d : Nat) (ht : Tryd.prog.underlying t = some (.array n 5)) (xs ys : List Int) (hx : xs.length = n) (hy : ys.length = n) (w : World) :
    (Op.equalIn (d + 2) t (.agg (xs.map (Value.int .u8)).toArray) (.agg (ys.map (Value.int .u8)).toArray)).run Tryd.prog w = .ok (xs == ys) w := by
  rw [← same_at xs ys (hx.trans hy.symm), hx, List.range_eq_range', Op.equalIn]
  simp only [Sem.run_bind, run_underlying ht, Result.andThen_ok, size5, Std.Legacy.Range.forIn_eq_forIn_range', Std.Legacy.Range.size, Nat.sub_zero, Nat.add_sub_cancel, Nat.div_one]
  have hl : ∀ i ∈ List.range' 0 n 1, i < n := fun i hi => by simpa using (List.mem_range'_1.1 hi).2
  generalize List.range' 0 n 1 = l at hl ⊢
  induction l with
  | nil => simp
  | cons i l ih =>
    have hi : i < n := hl i (by simp)
    have px : (part 5 (xs.map (Value.int .u8)).toArray (i * 1)).run Tryd.prog w = .ok (.int .u8 (xs.getD i 0)) w := by
      simp [part, isAgg, run_underlying Tryd.underlying5, List.getD, List.getElem?_eq_getElem (show i < xs.length by omega)]
    have py : (part 5 (ys.map (Value.int .u8)).toArray (i * 1)).run Tryd.prog w = .ok (.int .u8 (ys.getD i 0)) w := by
      simp [part, isAgg, run_underlying Tryd.underlying5, List.getD, List.getElem?_eq_getElem (show i < ys.length by omega)]
    have pe : (Op.equalIn (d + 1) 5 (.int .u8 (xs.getD i 0)) (.int .u8 (ys.getD i 0))).run Tryd.prog w = .ok (xs.getD i 0 == ys.getD i 0) w :=
      run_equalIn_int w d 5 .u8 .u8 _ _ Tryd.underlying5
    simp only [List.forIn_cons, Sem.run_bind, px, py, pe, Result.andThen_ok, List.all_cons]
    cases hb : (xs.getD i 0 == ys.getD i 0)
    · simp
    · simp only [Bool.not_true, Bool.false_eq_true, if_false, Sem.run_pure, Result.andThen_ok, Bool.true_and]
      exact ih fun j hj => hl j (by simp [hj])

end Go.Proofs.YtnenkclihgeacaaDoor
/- Own: a table of refs in memory. No statement is proved here. -/
namespace Go.Proofs.YtnenkclihgeacaaDoor
set_option maxRecDepth 100000
open Go.RowKit
set_option linter.unusedVariables false
set_option linter.unusedSimpArgs false

/-- What a ref is. -/
structure Rf where
  name : ByteArray
  key : List Int
  fast : Bool
deriving DecidableEq
def Rf.vals (o : Rf) : List Value := .string o.name :: (o.key.map (Value.int .u8) ++ [.bool o.fast])
structure Rf.Ok (o : Rf) : Prop where
  len : o.key.length = 32
  ok : BytesOk o.key
def rf0 : Rf := ⟨ByteArray.empty, List.replicate 32 0, false⟩
theorem rf0_ok : rf0.Ok := ⟨by simp [rf0], fun x hx => by simp [rf0] at hx; omega⟩
theorem Rf.Ok.vlen {o : Rf} (h : o.Ok) : o.vals.length = 34 := by simp [Rf.vals, h.len]
theorem Rf.vals_one (o : Rf) : ∀ v ∈ o.vals, v.oneCell' = true := fun v hv => by
  simp only [Rf.vals, List.mem_append, List.mem_map, List.mem_cons, List.not_mem_nil, or_false] at hv
  rcases hv with rfl | ⟨x, _, rfl⟩ | rfl <;> rfl
def rfsV (sl : List Rf) : List Value := sl.flatMap Rf.vals
theorem rfsV_len {sl : List Rf} (h : ∀ o ∈ sl, o.Ok) : (rfsV sl).length = 34 * sl.length := by
  induction sl with
  | nil => rfl
  | cons o sl ih =>
    have := ih (fun x hx => h x (List.mem_cons_of_mem _ hx))
    have h1 := (h o List.mem_cons_self).vlen
    simp only [rfsV, List.flatMap_cons, List.length_append, List.length_cons] at this ⊢
    omega
theorem rfsV_part {sl : List Rf} (h : ∀ o ∈ sl, o.Ok) : ∀ k, k < sl.length → ((rfsV sl).drop (k * 34)).take 34 = (sl.getD k rf0).vals := by
  induction sl with
  | nil => intro k hk; simp at hk
  | cons o sl ih =>
    intro k hk
    have h1 := (h o List.mem_cons_self).vlen
    cases k with
    | zero =>
      simp only [rfsV, List.flatMap_cons, Nat.zero_mul, List.drop_zero, List.getD_cons_zero]
      rw [List.take_append_of_le_length (by omega), List.take_of_length_le (by omega)]
    | succ k =>
      have := ih (fun x hx => h x (List.mem_cons_of_mem _ hx)) k (by simpa using hk)
      simp only [rfsV, List.flatMap_cons, List.getD_cons_succ] at this ⊢
      rw [← this, List.drop_append, h1, List.drop_of_length_le (by omega), List.nil_append]
      congr 2
      omega
theorem rfsV_set {sl : List Rf} (h : ∀ o ∈ sl, o.Ok) (o : Rf) (ho : o.Ok) : ∀ k, k < sl.length → rfsV (sl.set k o) = (rfsV sl).take (k * 34) ++ o.vals ++ (rfsV sl).drop (k * 34 + 34) := by
  induction sl with
  | nil => intro k hk; simp at hk
  | cons x sl ih =>
    intro k hk
    have h1 := (h x List.mem_cons_self).vlen
    cases k with
    | zero =>
      simp only [List.set_cons_zero, rfsV, List.flatMap_cons, Nat.zero_mul, List.take_zero, List.nil_append, Nat.zero_add]
      rw [List.drop_append, List.drop_of_length_le (by omega), h1]
      simp
    | succ k =>
      have := ih (fun x hx => h x (List.mem_cons_of_mem _ hx)) k (by simpa using hk)
      simp only [List.set_cons_succ, rfsV, List.flatMap_cons] at this ⊢
      rw [this, List.take_append, List.drop_append, h1, List.take_of_length_le (show x.vals.length ≤ (k + 1) * 34 by omega), List.drop_of_length_le (show x.vals.length ≤ (k + 1) * 34 + 34 by omega)]
      rw [show (k + 1) * 34 - 34 = k * 34 by omega, show (k + 1) * 34 + 34 - 34 = k * 34 + 34 by omega]
      simp
def tbV (J : Nat) (sl : List Rf) : List Value := .pointer (some ⟨J, 0, none⟩) :: rfsV sl
/-- A table in memory. -/
structure TbAt (w : World) (S J : Nat) (sl : List Rf) : Prop where
  at_ : w.heap[S]? = some (.cells (tbV J sl).toArray 69 (0, 0))
  len : sl.length = 12
  ok : ∀ o ∈ sl, o.Ok
section
variable {w w' : World} {S J : Nat} {sl : List Rf} {G : Nat → Prop}
theorem TbAt.lt (h : TbAt w S J sl) : S < w.heap.size := (Array.getElem?_eq_some_iff.1 h.at_).1
theorem TbAt.turn (h : TbAt w S J sl) (T : Turn G w w') (hn : ¬ G S) : TbAt w' S J sl := ⟨(T.block S h.lt hn).trans h.at_, h.len, h.ok⟩
theorem TbAt.below {B : Nat} (h : TbAt w S J sl) (T : Below B w w') (hB : S < B) : TbAt w' S J sl := ⟨(T.block S hB).trans h.at_, h.len, h.ok⟩
theorem TbAt.vlen (h : TbAt w S J sl) : (rfsV sl).length = 408 := by rw [rfsV_len h.ok, h.len]
theorem TbAt.get (h : TbAt w S J sl) (k : Nat) : w.cell? ⟨S, k, none⟩ = (tbV J sl)[k]? := by rw [cell_of_row w S k _ 69 (0, 0) h.at_]; simp
theorem TbAt.c0 (h : TbAt w S J sl) : w.cell? ⟨S, 0, none⟩ = some (.pointer (some ⟨J, 0, none⟩)) := by rw [h.get]; rfl
theorem TbAt.range (h : TbAt w S J sl) : w.rangeAt S 1 (rfsV sl) := fun j v hj => by
  rw [h.get, tbV, Nat.add_comm, List.getElem?_cons_succ]; exact hj
theorem TbAt.slot (h : TbAt w S J sl) (k : Nat) (hk : k < 12) : w.rangeAt S (1 + k * 34) (sl.getD k rf0).vals := fun j v hj => by
  rw [← rfsV_part h.ok k (by rw [h.len]; exact hk), List.getElem?_take] at hj
  split at hj
  · rw [List.getElem?_drop] at hj
    have := h.range (k * 34 + j) v hj
    rwa [← Nat.add_assoc] at this
  · cases hj
theorem TbAt.free (h : TbAt w S J sl) (k : Nat) : w.frozen? ⟨S, k, none⟩ = false := frozen_of_row w S k _ 69 h.at_
theorem TbAt.there (h : TbAt w S J sl) (k : Nat) (hk : k < 12) : w.there S (1 + k * 34) 34 := fun j hj => by
  refine ⟨?_, h.free _⟩
  rw [h.get]
  have : 1 + k * 34 + j < (tbV J sl).length := by simp [tbV, h.vlen]; omega
  simp [this]
theorem TbAt.getok (h : TbAt w S J sl) (k : Nat) (hk : k < 12) : (sl.getD k rf0).Ok := by
  have : sl.getD k rf0 = sl[k]'(by rw [h.len]; exact hk) := by simp [List.getD, h.len, hk]
  rw [this]
  exact h.ok _ (List.getElem_mem _)
end
theorem info37 : (Tryd.prog.info? 37).map (·.size) = some 34 := by kernel_rfl
theorem info67 : (Tryd.prog.info? 67).map (·.size) = some 408 := by kernel_rfl
theorem info35 : (Tryd.prog.info? 35).map (·.size) = some 32 := by kernel_rfl
theorem run_agg37 (w : World) : (isAgg 37).run Tryd.prog w = .ok true w := by kernel_rfl
theorem TbAt.set {w : World} {S J : Nat} {sl : List Rf} (h : TbAt w S J sl) (k : Nat) (hk : k < 12) (o : Rf) (ho : o.Ok) : TbAt (w.setCells S (1 + k * 34) o.vals) S J (sl.set k o) := by
  have hv := h.vlen
  have := heap_setCells S 69 o.vals (1 + k * 34) w (tbV J sl) h.at_ (by simp [tbV, hv, ho.vlen]; omega)
  refine ⟨?_, by simpa using h.len, fun x hx => ?_⟩
  · rw [this]
    congr 2
    apply congrArg List.toArray
    unfold tbV
    rw [rfsV_set h.ok o ho k (by rw [h.len]; exact hk), ho.vlen, Nat.add_comm 1 (k * 34), List.take_succ_cons, show k * 34 + 1 + 34 = k * 34 + 34 + 1 by omega, List.drop_succ_cons]
    simp
  · rcases List.mem_or_eq_of_mem_set hx with h1 | h1
    · exact h.ok x h1
    · subst h1; exact ho

theorem toList_inj {a b : ByteArray} (h : a.toList = b.toList) : a = b := by
  rw [ByteArray.toList_eq, ByteArray.toList_eq] at h
  cases a; cases b
  simpa [Array.toList_inj] using h
theorem name_eq (a b : ByteArray) : (a.toList == b.toList) = decide (a = b) := by
  by_cases h : a = b
  · subst h; simp
  · rw [decide_eq_false h]
    cases he : (a.toList == b.toList)
    · rfl
    · exact absurd (toList_inj (by simpa using he)) h
theorem run_agg35 (w : World) : (isAgg 35).run Tryd.prog w = .ok true w := by kernel_rfl
theorem run_agg9 (w : World) : (isAgg 9).run Tryd.prog w = .ok false w := by kernel_rfl
theorem run_agg4 (w : World) : (isAgg 4).run Tryd.prog w = .ok false w := by kernel_rfl
theorem run_size35 (w : World) : (sizeOf 35).run Tryd.prog w = .ok 32 w := by
  cases hq : Tryd.prog.info? 35 with
  | none => have := info35; rw [hq] at this; cases this
  | some i => have h := info35; rw [hq] at h; simp at h; simp [sizeOf, typeInfo, hq, h]
theorem part_name (o : Rf) (h : o.Ok) (w : World) : (part 9 o.vals.toArray 0).run Tryd.prog w = .ok (.string o.name) w := by
  unfold part
  simp [Sem.run_bind, run_agg9, Rf.vals]
theorem part_key (o : Rf) (h : o.Ok) (w : World) : (part 35 o.vals.toArray 1).run Tryd.prog w = .ok (.agg (o.key.map (Value.int .u8)).toArray) w := by
  unfold part
  simp only [Sem.run_bind, run_agg35, Result.andThen_ok, if_true, run_size35, Sem.run_pure]
  congr 2
  apply Array.ext'
  simp [List.extract_eq_take_drop, Rf.vals]
  rw [List.take_append_of_le_length (by simp [h.len]), List.take_of_length_le (by simp [h.len])]
theorem part_fast (o : Rf) (h : o.Ok) (w : World) : (part 4 o.vals.toArray 33).run Tryd.prog w = .ok (.bool o.fast) w := by
  unfold part
  have : o.vals[33]? = some (.bool o.fast) := by
    rw [Rf.vals, List.getElem?_cons_succ, List.getElem?_append_right (by simp [h.len])]; simp [h.len]
  simp [Sem.run_bind, run_agg4, this]
theorem fields37 : Tryd.prog.fieldsOf 37 = #[⟨"Name", 9, 0, false, "", "", 0⟩, ⟨"Key", 35, 1, false, "", "", 16⟩, ⟨"Fast", 4, 33, false, "", "", 48⟩] := by kernel_rfl
/-- Two refs are compared. -/
theorem run_eql_rf (o1 o2 : Rf) (h1 : o1.Ok) (h2 : o2.Ok) (w : World) : (binOp .eql 37 (.agg o1.vals.toArray) (.agg o2.vals.toArray)).run Tryd.prog w = .ok (.bool (decide (o1 = o2))) w := by
  have hu : Tryd.prog.underlying 37 = some (.struct (Tryd.prog.fieldsOf 37)) := by rw [fields37]; kernel_rfl
  have main : (Op.equalIn (9999 + 1) 37 (.agg o1.vals.toArray) (.agg o2.vals.toArray)).run Tryd.prog w = .ok (decide (o1 = o2)) w := by
    rw [run_equalIn_struct w 9999 37 _ _ hu (by kernel_rfl), fields37]
    have e1 := equalIn_bytes 35 32 9997 Tryd.underlying35 o1.key o2.key h1.len h2.len w
    have e2 := run_equalIn_string w 9998 9 o1.name o2.name Tryd.underlying9
    have e3 := run_equalIn_bool w 9998 4 o1.fast o2.fast Tryd.underlying4
    rw [name_eq] at e2
    simp only [Op.eqFields, Sem.run_bind, Sem.run_ite, part_key o1 h1, part_key o2 h2, part_name o1 h1, part_name o2 h2, part_fast o1 h1, part_fast o2 h2, Result.andThen_ok, e1, e2, e3]
    obtain ⟨k1, f1, s1⟩ := o1
    obtain ⟨k2, f2, s2⟩ := o2
    simp only [Rf.mk.injEq]
    by_cases a1 : k1 = k2
    · by_cases a2 : f1 = f2
      · by_cases a3 : s1 = s2
        · simp [a1, a2, a3]
        · simp [a1, a2, a3]
      · simp [a1, a2]
    · simp [a1]
  rw [run_eql_struct]
  have := main
  simp only [Nat.reduceAdd] at this
  rw [this]
  rfl
def z37 : List Value := rf0.vals
theorem zero37 (w : World) : (zeroValue 37).run Tryd.prog w = .ok (.agg z37.toArray) w := by kernel_rfl
theorem build37 (w : World) : (Instr.build 37 #[]).run Tryd.prog w = .ok (.agg z37.toArray) w := by kernel_rfl
end Go.Proofs.YtnenkclihgeacaaDoor
/- Own contracts: which names may be. No statement is proved here. -/
namespace Go.Proofs.YtnenkclihgeacaaDoor
set_option maxRecDepth 100000
open Go.RowKit
set_option linter.unusedVariables false
set_option linter.unusedSimpArgs false

def chr (s : ByteArray) (i : Nat) : Nat := (s.data.toList.getD i 0).toNat
def okB (i c : Nat) : Bool := decide (97 ≤ c ∧ c ≤ 122) || (decide (0 < i) && (decide (48 ≤ c ∧ c ≤ 57) || decide (c = 46)))
def rightB (s : ByteArray) : Bool := decide (1 ≤ s.size ∧ s.size ≤ 12) && (List.range s.size).all fun i => okB i (chr s i)
theorem chr_at (s : ByteArray) (i : Nat) (h : i < s.size) : (s[i]'h).toNat = chr s i := by
  unfold chr
  have h' : i < s.data.toList.length := by simpa using h
  rw [List.getD_eq_getElem?_getD, List.getElem?_eq_getElem h']
  rfl
theorem chr_lt (s : ByteArray) (i : Nat) : chr s i < 256 := (s.data.toList.getD i 0).toNat_lt
theorem small_any (r : Int) (w : World) : Calls Tryd.prog 29 #[.int .i32 r] w fun e w' => e = .returned (.bool (decide (97 ≤ r ∧ r ≤ 122))) ∧ w' = w := by
  by_cases h1 : 97 ≤ r
  · by_cases h2 : r ≤ 122
    · have d1 : decide (97 ≤ r) = true := decide_eq_true h1
      have d2 : decide (r ≤ 122) = true := decide_eq_true h2
      rw [decide_eq_true ⟨h1, h2⟩]
      go_enter Tryd.func29, Tryd.ntmps29
      go_wp2_with fail
      go_ret
      exact ⟨by first | rfl | simp [h1, h2], rfl⟩
    · have d1 : decide (97 ≤ r) = true := decide_eq_true h1
      have d2 : decide (r ≤ 122) = false := decide_eq_false h2
      rw [decide_eq_false (fun h => h2 h.2)]
      go_enter Tryd.func29, Tryd.ntmps29
      go_wp2_with fail
      go_ret
      exact ⟨by first | rfl | simp [h1, h2], rfl⟩
  · have d1 : decide (97 ≤ r) = false := decide_eq_false h1
    rw [decide_eq_false (fun h => h1 h.1)]
    go_enter Tryd.func29, Tryd.ntmps29
    go_wp2_with fail
    go_ret
    exact ⟨by first | rfl | simp [h1], rfl⟩
theorem digit_any (r : Int) (w : World) : Calls Tryd.prog 30 #[.int .i32 r] w fun e w' => e = .returned (.bool (decide (48 ≤ r ∧ r ≤ 57))) ∧ w' = w := by
  by_cases h1 : 48 ≤ r
  · by_cases h2 : r ≤ 57
    · have d1 : decide (48 ≤ r) = true := decide_eq_true h1
      have d2 : decide (r ≤ 57) = true := decide_eq_true h2
      rw [decide_eq_true ⟨h1, h2⟩]
      go_enter Tryd.func30, Tryd.ntmps30
      go_wp2_with fail
      go_ret
      exact ⟨by first | rfl | simp [h1, h2], rfl⟩
    · have d1 : decide (48 ≤ r) = true := decide_eq_true h1
      have d2 : decide (r ≤ 57) = false := decide_eq_false h2
      rw [decide_eq_false (fun h => h2 h.2)]
      go_enter Tryd.func30, Tryd.ntmps30
      go_wp2_with fail
      go_ret
      exact ⟨by first | rfl | simp [h1, h2], rfl⟩
  · have d1 : decide (48 ≤ r) = false := decide_eq_false h1
    rw [decide_eq_false (fun h => h1 h.1)]
    go_enter Tryd.func30, Tryd.ntmps30
    go_wp2_with fail
    go_ret
    exact ⟨by first | rfl | simp [h1], rfl⟩
theorem turn_iterAt (w : World) (k : Nat) (s : ByteArray) (p : Nat) : Turn (fun q => q = k) w (w.iterAt k s p) := by
  refine ⟨rfl, rfl, rfl, by simp [World.iterAt], fun q _ hn => ?_⟩
  simp only [World.iterAt]
  rw [Array.getElem?_setIfInBounds_ne (fun e => hn e.symm)]
def okI (i : Nat) (c : Int) : Bool := decide (97 ≤ c ∧ c ≤ 122) || (decide (0 < i) && (decide (48 ≤ c ∧ c ≤ 57) || decide (c = 46)))
theorem okI_nat (i c : Nat) : okI i (c : Int) = okB i c := by
  unfold okI okB
  congr 1
  · rw [decide_eq_decide]; omega
  · congr 2
    · rw [decide_eq_decide]; omega
    · rw [decide_eq_decide]; omega
theorem right_no (s : ByteArray) (i : Nat) (hi : i < s.size) (h : okB i (chr s i) = false) : rightB s = false := by
  unfold rightB
  have : ((List.range s.size).all fun i => okB i (chr s i)) = false := by
    rw [List.all_eq_false]
    exact ⟨i, by simpa using hi, by rw [h]; simp⟩
  rw [this, Bool.and_false]
set_option maxHeartbeats 1600000 in
theorem right_any (s : ByteArray) (w : World) : Calls Tryd.prog 10 #[.string s] w fun e w' => e = .returned (.bool (rightB s)) ∧ Turn (fun _ => False) w w' := by
  by_cases hs : s.size < 1 ∨ 12 < s.size
  · have hr : rightB s = false := by unfold rightB; rw [decide_eq_false (by omega)]; rfl
    rw [hr]
    by_cases h1 : s.size < 1
    · have d1 : decide ((s.size : Int) < 1) = true := decide_eq_true (by omega)
      clear hs hr
      go_enter Tryd.func10, Tryd.ntmps10
      go_wp2_with fail
      go_ret
      exact ⟨rfl, Turn.refl _ _⟩
    · have d1 : decide ((s.size : Int) < 1) = false := decide_eq_false (by omega)
      have d2 : decide (12 < (s.size : Int)) = true := decide_eq_true (by omega)
      clear hs hr
      go_enter Tryd.func10, Tryd.ntmps10
      go_wp2_with fail
      go_ret
      exact ⟨rfl, Turn.refl _ _⟩
  · have hs1 : 1 ≤ s.size := by omega
    have hs2 : s.size ≤ 12 := by omega
    have d1 : decide ((s.size : Int) < 1) = false := decide_eq_false (by omega)
    have d2 : decide (12 < (s.size : Int)) = false := decide_eq_false (by omega)
    clear hs
    have t0 : Turn (fun _ => False) w (w.iter s 0) := (Turn.refl _ w).alloc _
    have hn : (w.iter s 0).heap[w.heap.size]? = some (.stringIter s 0) := heap_alloc_new w (.stringIter s 0)
    go_enter Tryd.func10, Tryd.ntmps10
    go_wp2_with fail
    obtain ⟨w1, hw1⟩ : ∃ w1, w.iter s 0 = w1 := ⟨_, rfl⟩
    rw [hw1] at t0 hn ⊢
    clear hw1
    obtain ⟨K, hK⟩ : ∃ K, w.heap.size = K := ⟨_, rfl⟩
    rw [hK] at hn ⊢
    have HK := Lib.hid hK
    have HT0 := Lib.hid t0
    have HN := Lib.hid hn
    clear hK t0 hn d1 d2
    go_loopw [2] (fun iv wr => iv = .bool false ∧ ∃ pos : Nat, pos ≤ s.size ∧ wr.heap[K]? = some (.stringIter s pos) ∧ Turn (fun _ => False) w wr ∧ ∀ i, i < pos → okB i (chr s i) = true) (fun _ wr => s.size - wr.iterPos K)
    case atStart => exact ⟨rfl, 0, by omega, HN.out, HT0.out, fun i hi => by omega⟩
    case round =>
      obtain ⟨rfl, pos, hp, hh, ht, hall⟩ := hrel
      have HH := Lib.hid hh
      have HT := Lib.hid ht
      have HA := Lib.hid hall
      by_cases hlt : pos < s.size
      · have hnx : ∀ ty, (Instr.next (.pointer (some ⟨K, 0, none⟩)) true ty).run Tryd.prog wr = .ok (.tuple #[.bool true, .int .i64 pos, .int .i32 (Utf8.decode s pos).1]) (wr.iterAt K s (pos + (Utf8.decode s pos).2)) := fun ty => Lib.run_next_any_at wr K s pos ty hh hlt
        obtain ⟨c, hc⟩ : ∃ c : Nat, (Utf8.decode s pos).1 = c := ⟨_, rfl⟩
        have hgood : okI pos (c : Int) = true → (Utf8.decode s pos).2 = 1 ∧ c = chr s pos := fun hg => by
          by_cases ha : (s[pos]'hlt).toNat < 128
          · rw [decode_ascii s pos hlt ha] at hc ⊢
            exact ⟨rfl, by rw [← hc]; exact chr_at s pos hlt⟩
          · have := (decode_high s pos hlt (by omega)).1
            rw [hc] at this
            unfold okI at hg
            simp at hg
            omega
        have hbad : okI pos (c : Int) = false → okB pos (chr s pos) = false := fun hg => by
          by_cases ha : (s[pos]'hlt).toNat < 128
          · rw [decode_ascii s pos hlt ha] at hc
            rw [← chr_at s pos hlt, ← okI_nat, show ((s[pos]'hlt).toNat : Int) = (c : Int) by rw [← hc]]
            exact hg
          · rw [← chr_at s pos hlt]
            unfold okB
            simp
            omega
        have hwid : wr.iterAt K s (pos + (Utf8.decode s pos).2) = wr.iterAt K s (pos + (Utf8.decode s pos).2) := rfl
        have hk2 := Lib.iterAt_heap wr K s pos (pos + (Utf8.decode s pos).2) hh
        have tn := HT.out.trans (turn_iterAt wr K s (pos + (Utf8.decode s pos).2)) (fun q hq e => by have := HK.out; omega)
        generalize (Utf8.decode s pos).2 = d at *
        rw [hc] at hnx
        obtain ⟨w2, hw2⟩ : ∃ w2, wr.iterAt K s (pos + d) = w2 := ⟨_, rfl⟩
        rw [hw2] at hnx hk2 tn
        have HK2 := Lib.hid hk2
        have HTN := Lib.hid tn
        have HG := Lib.hid hgood
        have HBD := Lib.hid hbad
        clear hh ht hall hgood hbad hk2 tn hw2 hwid hc
        go_wp2_with fail
        refine (small_any (c : Int) w2).mono ?_
        rintro e w9 ⟨rfl, rfl⟩
        have hret : rightB s = false → True := fun _ => trivial
        by_cases c1 : 97 ≤ (c : Int) ∧ (c : Int) ≤ 122
        · rw [decide_eq_true c1]
          have hg := HG.out (by unfold okI; rw [decide_eq_true c1]; rfl)
          go_wp2_with fail
          go_roundw
          case rel =>
            refine ⟨rfl, pos + 1, by omega, by rw [← hg.1]; exact HK2.out, HTN.out, fun i hi => ?_⟩
            by_cases e : i = pos
            · subst e; rw [← hg.2, ← okI_nat]; unfold okI; rw [decide_eq_true c1]; rfl
            · exact HA.out i (by omega)
          case measure =>
            have e1 : wr.iterPos K = pos := by unfold World.iterPos; rw [HH.out]
            have e2 : w9.iterPos K = pos + 1 := by unfold World.iterPos; rw [HK2.out, hg.1]
            rw [e1, e2]; omega
        · rw [decide_eq_false c1]
          have d1 := c1
          by_cases c0 : pos = 0
          · subst c0
            have hg := HBD.out (by unfold okI; rw [decide_eq_false c1]; rfl)
            have HGb := Lib.hid hg
            clear hg c1
            go_wp2_with fail
            go_ret
            refine ⟨?_, HTN.out⟩
            rw [right_no s 0 hlt HGb.out]
            rfl
          · have z1 : ((pos : Int) == 0) = false := by simpa using c0
            have z2 : (pos : Int) ≠ 0 := by omega
            go_wp2_with fail
            refine (digit_any (c : Int) _).mono ?_
            rintro e w9 ⟨rfl, rfl⟩
            by_cases c2 : 48 ≤ (c : Int) ∧ (c : Int) ≤ 57
            · rw [decide_eq_true c2]
              have hok : okI pos (c : Int) = true := by unfold okI; rw [decide_eq_false c1, decide_eq_true c2, decide_eq_true (show 0 < pos by omega)]; rfl
              have hg := HG.out hok
              have HOK := Lib.hid hok
              clear hok c1 c2 d1
              go_wp2_with fail
              go_roundw
              case rel =>
                refine ⟨rfl, pos + 1, by omega, by rw [← hg.1]; exact HK2.out, HTN.out, fun i hi => ?_⟩
                by_cases e : i = pos
                · subst e; rw [← hg.2, ← okI_nat]; exact HOK.out
                · exact HA.out i (by omega)
              case measure =>
                have e1 : wr.iterPos K = pos := by unfold World.iterPos; rw [HH.out]
                have e2 : w9.iterPos K = pos + 1 := by unfold World.iterPos; rw [HK2.out, hg.1]
                rw [e1, e2]; omega
            · rw [decide_eq_false c2]
              by_cases c3 : (c : Int) = 46
              · have hok : okI pos (c : Int) = true := by unfold okI; rw [decide_eq_false c1, decide_eq_false c2, decide_eq_true (show 0 < pos by omega), decide_eq_true c3]; rfl
                have hg := HG.out hok
                have HOK := Lib.hid hok
                have dd : ((c : Int) != 46) = false := by simp [c3]
                clear hok c1 c2 d1 c3
                go_wp2_with fail
                go_roundw
                case rel =>
                  refine ⟨rfl, pos + 1, by omega, by rw [← hg.1]; exact HK2.out, HTN.out, fun i hi => ?_⟩
                  by_cases e : i = pos
                  · subst e; rw [← hg.2, ← okI_nat]; exact HOK.out
                  · exact HA.out i (by omega)
                case measure =>
                  have e1 : wr.iterPos K = pos := by unfold World.iterPos; rw [HH.out]
                  have e2 : w9.iterPos K = pos + 1 := by unfold World.iterPos; rw [HK2.out, hg.1]
                  rw [e1, e2]; omega
              · have dd : ((c : Int) != 46) = true := by simpa using c3
                have hg := HBD.out (by unfold okI; rw [decide_eq_false c1, decide_eq_false c2, decide_eq_false c3, Bool.or_false, Bool.and_false]; rfl)
                have HGb := Lib.hid hg
                clear hg c1 c2 d1 c3
                go_wp2_with fail
                go_ret
                refine ⟨?_, HTN.out⟩
                rw [right_no s pos hlt HGb.out]
                rfl
      · have hnx : ∀ ty, (Instr.next (.pointer (some ⟨K, 0, none⟩)) true ty).run Tryd.prog wr = .ok (.tuple #[.bool false]) wr := fun ty => Lib.run_next_end_at wr K s pos ty hh hlt
        clear hh ht hall
        go_wp2_with fail
        go_ret
        refine ⟨?_, HT.out⟩
        have : pos = s.size := by omega
        subst this
        have : rightB s = true := by
          unfold rightB
          rw [decide_eq_true ⟨hs1, hs2⟩, Bool.true_and, List.all_eq_true]
          intro i hi
          exact HA.out i (by simpa using hi)
        rw [this]
        rfl
theorem toList_nil (s : ByteArray) : s.toList = [] ↔ s.size = 0 := by
  rw [ByteArray.toList_eq]
  constructor
  · intro h; have := congrArg List.length h; simpa using this
  · intro h; exact List.eq_nil_of_length_eq_zero (by simpa using h)
def okTo (s : ByteArray) (n : Nat) : Bool := decide (1 ≤ s.size ∧ s.size ≤ 12) && (List.range n).all fun i => okB i (chr s i)
theorem okTo_succ (s : ByteArray) (n : Nat) : okTo s (n + 1) = (okTo s n && okB n (chr s n)) := by
  unfold okTo
  rw [List.range_succ, List.all_append, Bool.and_assoc]
  simp
set_option maxHeartbeats 1600000 in
theorem lright_any (s : ByteArray) (w : World) (hs : s.size ≤ 9223372036854775807) : Calls Tryd.prog 11 #[.string s] w fun e w' => e = .returned (.bool (rightB s)) ∧ w' = w := by
  have hend : okTo s s.size = rightB s := rfl
  have HE := Lib.hid hend
  clear hend
  by_cases h0 : s.size = 0
  · have e0 : s.toList = [] := (toList_nil s).2 h0
    have hr : rightB s = false := by unfold rightB; rw [decide_eq_false (by omega)]; rfl
    rw [hr]
    have d0 : decide ((0 : Int) < (s.size : Int)) = false := by simp [h0]
    clear hr
    go_enter Tryd.func11, Tryd.ntmps11
    go_wp2_with fail
    go_loopw [3, 4] (fun bv iv wr => bv = .bool false ∧ iv = .int .i64 0 ∧ wr = w) (fun _ _ _ => 0)
    case atStart => exact ⟨rfl, rfl, rfl⟩
    case round =>
      obtain ⟨rfl, rfl, rfl⟩ := hrel
      have d1 : ((s.size : Nat) : Int) = 0 := by omega
      go_wp2_with fail
      go_ret
      exact ⟨rfl, rfl⟩
  · have e0 : ¬ s.toList = [] := fun h => h0 ((toList_nil s).1 h)
    have e1 : s.toList.isEmpty = false := by simpa using e0
    go_enter Tryd.func11, Tryd.ntmps11
    go_wp2_with fail
    go_loopw [3, 4] (fun bv iv wr => ∃ k : Nat, k ≤ s.size ∧ bv = .bool (okTo s k) ∧ iv = .int .i64 (k : Int) ∧ wr = w) (fun _ iv _ => s.size - (intOf iv).toNat)
    case atStart => exact ⟨0, by omega, by
      unfold okTo
      have : decide ((s.size : Int) ≤ 12) = decide (1 ≤ s.size ∧ s.size ≤ 12) := by rw [decide_eq_decide]; omega
      simp [this], rfl, rfl⟩
    case round =>
      obtain ⟨k, hk, rfl, rfl, rfl⟩ := hrel
      by_cases hlt : k < s.size
      · have dk : decide ((k : Int) < (s.size : Int)) = true := decide_eq_true (by omega)
        have hix : (Instr.index 9 (.string s) (.int .i64 (k : Int))).run Tryd.prog wr = .ok (.int .u8 ((chr s k : Nat) : Int)) wr := by
          rw [run_index_string (P := Tryd.prog) wr 9 _ .i64 (k : Int) Tryd.underlying9, dif_pos ⟨by omega, by omega⟩]
          rw [← chr_at s k hlt]
          rfl
        have hsc := okTo_succ s k
        have hcl := chr_lt s k
        unfold okB at hsc
        generalize chr s k = c at hix hsc hcl
        generalize okTo s k = b at *
        have HSC := Lib.hid hsc
        clear hsc
        cases b
        · go_wp2_with fail
          go_roundw
          case rel => exact ⟨k + 1, by omega, by rw [HSC.out]; rfl, by go_num, by first | rfl | trivial⟩
          case measure => simp [intOf]; omega
        · go_wp2_with fail
          all_goals refine ⟨⟨k + 1, by omega, ?_, by go_num, trivial⟩, by simp [intOf]; omega⟩
          all_goals rw [HSC.out]
          all_goals congr 1
          all_goals rw [Bool.eq_iff_iff]
          all_goals simp only [Bool.true_and, Bool.or_eq_true, Bool.and_eq_true, decide_eq_true_eq, beq_iff_eq]
          all_goals (simp at *; omega)
      · have dk : decide ((k : Int) < (s.size : Int)) = false := decide_eq_false (by omega)
        have hke : k = s.size := by omega
        have hq := HE.out
        rw [← hke] at hq
        generalize okTo s k = b at *
        have HQ := Lib.hid hq
        clear hq
        go_wp2_with fail
        go_ret
        exact ⟨by rw [← HQ.out]; rfl, rfl⟩
end Go.Proofs.YtnenkclihgeacaaDoor
/- Own contracts: a ref is found by its name. No statement is proved here. -/
namespace Go.Proofs.YtnenkclihgeacaaDoor
set_option maxRecDepth 100000
open Go.RowKit
set_option linter.unusedVariables false
set_option linter.unusedSimpArgs false

/-- A row of refs in memory. -/
structure RowAt (w : World) (b o : Nat) (rs : List Rf) : Prop where
  at_ : ∀ k, k < rs.length → w.rangeAt b (o + k * 34) (rs.getD k rf0).vals
  ok : ∀ x ∈ rs, x.Ok
  lt : b < w.heap.size
theorem RowAt.turn {w w' : World} {b o : Nat} {rs : List Rf} {G : Nat → Prop} (h : RowAt w b o rs) (t : Turn G w w') (hn : ¬ G b) : RowAt w' b o rs :=
  ⟨fun k hk => rangeAt_turn (h.at_ k hk) t hn, h.ok, Nat.lt_of_lt_of_le h.lt t.size⟩
theorem RowAt.get {w : World} {b o : Nat} {rs : List Rf} (h : RowAt w b o rs) (k : Nat) (hk : k < rs.length) : (rs.getD k rf0).Ok := by
  have : rs.getD k rf0 = rs[k] := by simp [List.getD, hk]
  rw [this]
  exact h.ok _ (List.getElem_mem _)
theorem TbAt.row {w : World} {S J : Nat} {rs : List Rf} (h : TbAt w S J rs) : RowAt w S 1 rs := ⟨fun k hk => h.slot k (by rw [← h.len]; exact hk), h.ok, h.lt⟩
theorem Rf.v0 (o : Rf) : o.vals[0]? = some (.string o.name) := rfl
theorem Rf.v33 (o : Rf) (h : o.Ok) : o.vals[33]? = some (.bool o.fast) := by
  rw [Rf.vals, List.getElem?_cons_succ, List.getElem?_append_right (by simp [h.len])]; simp [h.len]
theorem clos58 (o : Rf) (K : Nat) (s : ByteArray) (w : World) (hK : w.cell? ⟨K, 0, none⟩ = some (.string s)) (hl : K < w.heap.size) : Calls Tryd.prog 58 #[.agg o.vals.toArray, .pointer (some ⟨K, 0, none⟩)] w fun e w' => e = .returned (.bool (decide (o.name = s))) ∧ Turn (fun _ => False) w w' := by
  have hb := box_alloc w 37 o.vals
  obtain ⟨w1, hw1⟩ : ∃ w1, w.alloc (.cells o.vals.toArray 37) = w1 := ⟨_, rfl⟩
  rw [hw1] at hb
  have c0 := hb.cell 0 _ o.v0
  have c1 : w1.cell? ⟨K, 0, none⟩ = some (.string s) := (hb.turn.cell (p := ⟨K, 0, none⟩) hl id).trans hK
  have HB := Lib.hid hb
  have hq := name_eq o.name s
  clear hb hK
  go_enter Tryd.func58, Tryd.ntmps58
  go_wp2_with fail
  go_ret
  exact ⟨by simp [hq], HB.out.turn⟩
theorem clos47 (o : Rf) (w : World) : Calls Tryd.prog 47 #[.agg o.vals.toArray] w fun e w' => e = .returned (.bool (decide (o.name = ByteArray.empty))) ∧ Turn (fun _ => False) w w' := by
  have hb := box_alloc w 37 o.vals
  obtain ⟨w1, hw1⟩ : ∃ w1, w.alloc (.cells o.vals.toArray 37) = w1 := ⟨_, rfl⟩
  rw [hw1] at hb
  have c0 := hb.cell 0 _ o.v0
  have HB := Lib.hid hb
  have hq := name_eq o.name ByteArray.empty
  clear hb
  go_enter Tryd.func47, Tryd.ntmps47
  go_wp2_with fail
  go_ret
  refine ⟨?_, HB.out.turn⟩
  rw [← hq]
  first | rfl | simp
def FdPost (w : World) (rs : List Rf) (p : Rf → Bool) (e : Ending) (w' : World) : Prop :=
  Turn (fun _ => False) w w' ∧ ((∃ k, k < rs.length ∧ p (rs.getD k rf0) = true ∧ (∀ j, j < k → p (rs.getD j rf0) = false) ∧ e = .returned (.int .i64 (k : Int))) ∨ ((∀ j, j < rs.length → p (rs.getD j rf0) = false) ∧ e = .returned (.int .i64 (-1))))
set_option maxHeartbeats 1600000 in
theorem idxf58 (w : World) (b o n : Nat) (rs : List Rf) (hr : RowAt w b o rs) (hn : rs.length = n) (hn2 : n ≤ 1000) (K : Nat) (s : ByteArray) (hK : w.cell? ⟨K, 0, none⟩ = some (.string s)) (hKl : K < w.heap.size) : Calls Tryd.prog 57 #[.slice (some ⟨b, o, none⟩) n n, .func (.func 58) #[] #[.pointer (some ⟨K, 0, none⟩)]] w (FdPost w rs (fun o => decide (o.name = s))) := by
  have HR := Lib.hid hr
  have HN := Lib.hid hn
  have hcl : ∀ (o : Rf) wq, Turn (fun _ => False) w wq → Calls Tryd.prog 58 #[.agg o.vals.toArray, .pointer (some ⟨K, 0, none⟩)] wq fun e w' => e = .returned (.bool (decide (o.name = s))) ∧ Turn (fun _ => False) wq w' := fun o wq t => clos58 o K s wq ((t.cell (p := ⟨K, 0, none⟩) hKl id).trans hK) (Nat.lt_of_lt_of_le hKl t.size)
  have HCL := Lib.hid hcl
  clear hr hn hcl hK
  go_enter Tryd.func57, Tryd.ntmps57
  go_wp2_with fail
  go_loopw [8] (fun iv wr => ∃ k : Nat, k ≤ n ∧ iv = .int .i64 (k : Int) ∧ (∀ j, j < k → decide ((rs.getD j rf0).name = s) = false) ∧ Turn (fun _ => False) w wr) (fun iv _ => n - (intOf iv).toNat)
  case atStart => exact ⟨0, Nat.zero_le _, rfl, fun j hj => by omega, Turn.refl _ _⟩
  case round =>
    obtain ⟨k, hk, rfl, hne, tr⟩ := hrel
    have HNE := Lib.hid hne
    have HTR := Lib.hid tr
    clear hne tr
    by_cases hlt : k < n
    · have hkl : k < rs.length := by rw [HN.out]; exact hlt
      have hok := HR.out.get k hkl
      have hs1 := (HR.out.turn HTR.out id).at_ k hkl
      have hd1 : decide ((k : Int) < (n : Int)) = true := by simp; omega
      have gi : (0 : Int) ≤ (k : Int) ∧ (k : Int) < (n : Int) := by omega
      have HL := Lib.hid hkl
      clear hkl
      generalize hx : rs.getD k rf0 = x at *
      have HX := Lib.hid hx
      clear hx
      go_wp2_with (with_reducible (show wpList _ _ _ (Oper.mk (some 15) (.load 37 (.tmp 14)) _ _ _ _ :: _) _ _); refine still ?_)
      refine wpList_load_mid rfl 37 (.tmp 14) rfl b (o + k * 34) rfl x.vals _ hs1 Tryd.underlying37 rfl (by rw [hok.vlen]; exact info37) ?_
      go_wp2_with fail
      refine (HCL.out x wr HTR.out).mono ?_
      rintro e w9 ⟨rfl, t9⟩
      have HT9 := Lib.hid (HTR.out.trans t9 (fun _ _ => id))
      clear t9
      by_cases he : x.name = s
      · rw [decide_eq_true he]
        have HE := Lib.hid he
        clear he
        go_wp2_with fail
        go_ret
        exact ⟨HT9.out, .inl ⟨k, HL.out, by rw [HX.out]; exact decide_eq_true HE.out, HNE.out, rfl⟩⟩
      · rw [decide_eq_false he]
        have HE := Lib.hid he
        clear he
        go_wp2_with fail
        go_roundw
        case rel => exact ⟨k + 1, by omega, by go_num, fun j hj => by
          by_cases e : j = k
          · subst e; rw [HX.out]; exact decide_eq_false HE.out
          · exact HNE.out j (by omega), HT9.out⟩
        case measure => simp [intOf]; omega
    · have hke : k = n := by omega
      have hd1 : decide ((k : Int) < (n : Int)) = false := by simp; omega
      go_wp2_with fail
      go_ret
      exact ⟨HTR.out, .inr ⟨fun j hj => HNE.out j (by rw [hke, ← HN.out]; exact hj), rfl⟩⟩
set_option maxHeartbeats 1600000 in
theorem idxf47 (w : World) (b o n : Nat) (rs : List Rf) (hr : RowAt w b o rs) (hn : rs.length = n) (hn2 : n ≤ 1000) (cp : Nat) : Calls Tryd.prog 57 #[.slice (some ⟨b, o, none⟩) n cp, .func (.func 47) #[] #[]] w (FdPost w rs (fun o => decide (o.name = ByteArray.empty))) := by
  have HR := Lib.hid hr
  have HN := Lib.hid hn
  have hcl : ∀ (o : Rf) wq, Turn (fun _ => False) w wq → Calls Tryd.prog 47 #[.agg o.vals.toArray] wq fun e w' => e = .returned (.bool (decide (o.name = ByteArray.empty))) ∧ Turn (fun _ => False) wq w' := fun o wq t => clos47 o wq
  have HCL := Lib.hid hcl
  clear hr hn hcl
  go_enter Tryd.func57, Tryd.ntmps57
  go_wp2_with fail
  go_loopw [8] (fun iv wr => ∃ k : Nat, k ≤ n ∧ iv = .int .i64 (k : Int) ∧ (∀ j, j < k → decide ((rs.getD j rf0).name = ByteArray.empty) = false) ∧ Turn (fun _ => False) w wr) (fun iv _ => n - (intOf iv).toNat)
  case atStart => exact ⟨0, Nat.zero_le _, rfl, fun j hj => by omega, Turn.refl _ _⟩
  case round =>
    obtain ⟨k, hk, rfl, hne, tr⟩ := hrel
    have HNE := Lib.hid hne
    have HTR := Lib.hid tr
    clear hne tr
    by_cases hlt : k < n
    · have hkl : k < rs.length := by rw [HN.out]; exact hlt
      have hok := HR.out.get k hkl
      have hs1 := (HR.out.turn HTR.out id).at_ k hkl
      have hd1 : decide ((k : Int) < (n : Int)) = true := by simp; omega
      have gi : (0 : Int) ≤ (k : Int) ∧ (k : Int) < (n : Int) := by omega
      have HL := Lib.hid hkl
      clear hkl
      generalize hx : rs.getD k rf0 = x at *
      have HX := Lib.hid hx
      clear hx
      go_wp2_with (with_reducible (show wpList _ _ _ (Oper.mk (some 15) (.load 37 (.tmp 14)) _ _ _ _ :: _) _ _); refine still ?_)
      refine wpList_load_mid rfl 37 (.tmp 14) rfl b (o + k * 34) rfl x.vals _ hs1 Tryd.underlying37 rfl (by rw [hok.vlen]; exact info37) ?_
      go_wp2_with fail
      refine (HCL.out x wr HTR.out).mono ?_
      rintro e w9 ⟨rfl, t9⟩
      have HT9 := Lib.hid (HTR.out.trans t9 (fun _ _ => id))
      clear t9
      by_cases he : x.name = ByteArray.empty
      · rw [decide_eq_true he]
        have HE := Lib.hid he
        clear he
        go_wp2_with fail
        go_ret
        exact ⟨HT9.out, .inl ⟨k, HL.out, by rw [HX.out]; exact decide_eq_true HE.out, HNE.out, rfl⟩⟩
      · rw [decide_eq_false he]
        have HE := Lib.hid he
        clear he
        go_wp2_with fail
        go_roundw
        case rel => exact ⟨k + 1, by omega, by go_num, fun j hj => by
          by_cases e : j = k
          · subst e; rw [HX.out]; exact decide_eq_false HE.out
          · exact HNE.out j (by omega), HT9.out⟩
        case measure => simp [intOf]; omega
    · have hke : k = n := by omega
      have hd1 : decide ((k : Int) < (n : Int)) = false := by simp; omega
      go_wp2_with fail
      go_ret
      exact ⟨HTR.out, .inr ⟨fun j hj => HNE.out j (by rw [hke, ← HN.out]; exact hj), rfl⟩⟩
end Go.Proofs.YtnenkclihgeacaaDoor
