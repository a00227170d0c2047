/- Own texts, packed: Q36. -/
import Derived.Test.YtboofamenpcnhaaGreatDoorV03
import Derived.Test.YtboofamenpcnhaaGreatDoorV13
import Derived.Test.YtboofamenpcnhaaGreatDoorV04
import Derived.Test.YtboofamenpcnhaaGreatDoorV14
import Derived.Test.YtboofamenpcnhaaGreatDoorV00
namespace Go.Proofs.YtboofamenpcnhaaGreatDoor
set_option maxRecDepth 100000
open Go.RowKit
set_option linter.unusedVariables false
set_option linter.unusedSimpArgs false
/-- What a slot tells. -/
structure Ob where
  key : List Int
  first : Int
  size : Int
deriving DecidableEq
def Ob.vals (o : Ob) : List Value := o.key.map (Value.int .u8) ++ [.int .i64 o.first, .int .i64 o.size]
structure Ob.Ok (o : Ob) : Prop where
  len : o.key.length = 32
  ok : BytesOk o.key
  first : 0 ≤ o.first ∧ o.first < 4294967296
  size : 0 ≤ o.size ∧ o.size ≤ 900
def ob0 : Ob := ⟨List.replicate 32 0, 0, 0⟩
theorem ob0_ok : ob0.Ok := ⟨by simp [ob0], fun x hx => by simp [ob0] at hx; omega, by simp [ob0], by simp [ob0]⟩
theorem Ob.Ok.vlen {o : Ob} (h : o.Ok) : o.vals.length = 34 := by simp [Ob.vals, h.len]
theorem Ob.vals_one (o : Ob) : ∀ v ∈ o.vals, v.oneCell' = true := fun v hv => by
  simp only [Ob.vals, List.mem_append, List.mem_map, List.mem_cons, List.not_mem_nil, or_false] at hv
  rcases hv with ⟨x, _, rfl⟩ | rfl | rfl <;> rfl
def obsV (sl : List Ob) : List Value := sl.flatMap Ob.vals
theorem obsV_len {sl : List Ob} (h : ∀ o ∈ sl, o.Ok) : (obsV sl).length = 34 * sl.length := by
  induction sl with
  | nil => rfl
  | cons o sl ih =>
    have := ih (fun x hx => h x (List.mem_cons_of_mem _ hx))
    have h1 := (h o List.mem_cons_self).vlen
    simp only [obsV, List.flatMap_cons, List.length_append, List.length_cons] at this ⊢
    omega
theorem obsV_part {sl : List Ob} (h : ∀ o ∈ sl, o.Ok) : ∀ k, k < sl.length → ((obsV sl).drop (k * 34)).take 34 = (sl.getD k ob0).vals := by
  induction sl with
  | nil => intro k hk; simp at hk
  | cons o sl ih =>
    intro k hk
    have h1 := (h o List.mem_cons_self).vlen
    cases k with
    | zero =>
      simp only [obsV, List.flatMap_cons, Nat.zero_mul, List.drop_zero, List.getD_cons_zero]
      rw [List.take_append_of_le_length (by omega), List.take_of_length_le (by omega)]
    | succ k =>
      have := ih (fun x hx => h x (List.mem_cons_of_mem _ hx)) k (by simpa using hk)
      simp only [obsV, List.flatMap_cons, List.getD_cons_succ] at this ⊢
      rw [← this, List.drop_append, h1, List.drop_of_length_le (by omega), List.nil_append]
      congr 2
      omega
theorem obsV_set {sl : List Ob} (h : ∀ o ∈ sl, o.Ok) (o : Ob) (ho : o.Ok) : ∀ k, k < sl.length → obsV (sl.set k o) = (obsV sl).take (k * 34) ++ o.vals ++ (obsV sl).drop (k * 34 + 34) := by
  induction sl with
  | nil => intro k hk; simp at hk
  | cons x sl ih =>
    intro k hk
    have h1 := (h x List.mem_cons_self).vlen
    cases k with
    | zero =>
      simp only [List.set_cons_zero, obsV, List.flatMap_cons, Nat.zero_mul, List.take_zero, List.nil_append, Nat.zero_add]
      rw [List.drop_append, List.drop_of_length_le (by omega), h1]
      simp
    | succ k =>
      have := ih (fun x hx => h x (List.mem_cons_of_mem _ hx)) k (by simpa using hk)
      simp only [List.set_cons_succ, obsV, List.flatMap_cons] at this ⊢
      rw [this, List.take_append, List.drop_append, h1, List.take_of_length_le (show x.vals.length ≤ (k + 1) * 34 by omega), List.drop_of_length_le (show x.vals.length ≤ (k + 1) * 34 + 34 by omega)]
      rw [show (k + 1) * 34 - 34 = k * 34 by omega, show (k + 1) * 34 + 34 - 34 = k * 34 + 34 by omega]
      simp
def shV (J M : Nat) (sl : List Ob) : List Value := .pointer (some ⟨J, 0, none⟩) :: (obsV sl ++ [.pointer (some ⟨M, 0, none⟩)])
/-- A shelf in memory. -/
structure ShAt (w : World) (S J M : Nat) (sl : List Ob) : Prop where
  at_ : w.heap[S]? = some (.cells (shV J M sl).toArray 76 (0, 0))
  len : sl.length = 48
  ok : ∀ o ∈ sl, o.Ok
section
variable {w w' : World} {S J M : Nat} {sl : List Ob} {G : Nat → Prop}
theorem ShAt.lt (h : ShAt w S J M sl) : S < w.heap.size := (Array.getElem?_eq_some_iff.1 h.at_).1
theorem ShAt.turn (h : ShAt w S J M sl) (T : Turn G w w') (hn : ¬ G S) : ShAt w' S J M sl := ⟨(T.block S h.lt hn).trans h.at_, h.len, h.ok⟩
theorem ShAt.below {B : Nat} (h : ShAt w S J M sl) (T : Below B w w') (hB : S < B) : ShAt w' S J M sl := ⟨(T.block S hB).trans h.at_, h.len, h.ok⟩
theorem ShAt.vlen (h : ShAt w S J M sl) : (obsV sl).length = 1632 := by rw [obsV_len h.ok, h.len]
theorem ShAt.get (h : ShAt w S J M sl) (k : Nat) : w.cell? ⟨S, k, none⟩ = (shV J M sl)[k]? := by rw [cell_of_row w S k _ 76 (0, 0) h.at_]; simp
theorem ShAt.c0 (h : ShAt w S J M sl) : w.cell? ⟨S, 0, none⟩ = some (.pointer (some ⟨J, 0, none⟩)) := by rw [h.get]; rfl
theorem ShAt.cM (h : ShAt w S J M sl) : w.cell? ⟨S, 1633, none⟩ = some (.pointer (some ⟨M, 0, none⟩)) := by
  rw [h.get, shV, List.getElem?_cons_succ, List.getElem?_append_right (by rw [h.vlen]; omega), h.vlen]; rfl
theorem ShAt.range (h : ShAt w S J M sl) : w.rangeAt S 1 (obsV sl) := fun j v hj => by
  rw [h.get, shV, Nat.add_comm, List.getElem?_cons_succ, List.getElem?_append_left (List.getElem?_eq_some_iff.1 hj).1]; exact hj
theorem ShAt.slot (h : ShAt w S J M sl) (k : Nat) (hk : k < 48) : w.rangeAt S (1 + k * 34) (sl.getD k ob0).vals := fun j v hj => by
  rw [← obsV_part h.ok k (by rw [h.len]; exact hk), List.getElem?_take] at hj
  split at hj
  · rw [List.getElem?_drop] at hj
    have := h.range (k * 34 + j) v hj
    rwa [← Nat.add_assoc] at this
  · cases hj
theorem ShAt.free (h : ShAt w S J M sl) (k : Nat) : w.frozen? ⟨S, k, none⟩ = false := frozen_of_row w S k _ 76 h.at_
theorem ShAt.there (h : ShAt w S J M sl) (k : Nat) (hk : k < 48) : w.there S (1 + k * 34) 34 := fun j hj => by
  refine ⟨?_, h.free _⟩
  rw [h.get]
  have : 1 + k * 34 + j < (shV J M sl).length := by simp [shV, h.vlen]; omega
  simp [this]
theorem ShAt.getok (h : ShAt w S J M sl) (k : Nat) (hk : k < 48) : (sl.getD k ob0).Ok := by
  have : sl.getD k ob0 = sl[k]'(by rw [h.len]; exact hk) := by simp [List.getD, h.len, hk]
  rw [this]
  exact h.ok _ (List.getElem_mem _)
end
theorem info62 : (Tryz.prog.info? 62).map (·.size) = some 34 := by kernel_rfl
theorem info73 : (Tryz.prog.info? 73).map (·.size) = some 1632 := by kernel_rfl
theorem info32 : (Tryz.prog.info? 32).map (·.size) = some 32 := by kernel_rfl
theorem run_agg62 (w : World) : (isAgg 62).run Tryz.prog w = .ok true w := by kernel_rfl
theorem run_index_ob (sl : List Ob) (hl : sl.length = 48) (ho : ∀ o ∈ sl, o.Ok) (k : Nat) (hk : k < 48) (w : World) : (Instr.index 73 (.agg (obsV sl).toArray) (.int .i64 (k : Int))).run Tryz.prog w = .ok (.agg (sl.getD k ob0).vals.toArray) w := by
  have hs : (sizeOf 62).run Tryz.prog w = .ok 34 w := by
    cases hq : Tryz.prog.info? 62 with
    | none => have := info62; rw [hq] at this; cases this
    | some i => have h := info62; rw [hq] at h; simp at h; simp [sizeOf, typeInfo, hq, h]
  have hp : (part 62 (obsV sl).toArray (k * 34)).run Tryz.prog w = .ok (.agg (sl.getD k ob0).vals.toArray) w := by
    unfold part
    simp only [Sem.run_bind, run_agg62, Result.andThen_ok, if_true, hs, Sem.run_pure]
    rw [← obsV_part ho k (by omega)]
    congr 2
    apply Array.ext'
    simp [List.extract_eq_take_drop]
  have hu : Tryz.prog.underlying 73 = some (.array 48 62) := Tryz.underlying73
  simp [Instr.index, asIntOf, run_underlying hu, hs, hp, show (0 : Int) ≤ (k : Int) by omega, show (k : Int) < 48 by omega]
  intro h; omega
theorem equalIn_bytes (t : TypeId) (n d : Nat) (ht : Tryz.prog.underlying t = some (.array n 5)) (xs ys : List Int) (hx : xs.length = n) (hy : ys.length = n) (w : World) :
    (Op.equalIn (d + 2) t (.agg (xs.map (Value.int .u8)).toArray) (.agg (ys.map (Value.int .u8)).toArray)).run Tryz.prog w = .ok (xs == ys) w := by
  rw [← same_at xs ys (hx.trans hy.symm), hx, List.range_eq_range', Op.equalIn]
  simp only [Sem.run_bind, run_underlying ht, Result.andThen_ok, size5, Std.Legacy.Range.forIn_eq_forIn_range', Std.Legacy.Range.size, Nat.sub_zero, Nat.add_sub_cancel, Nat.div_one]
  have hl : ∀ i ∈ List.range' 0 n 1, i < n := fun i hi => by simpa using (List.mem_range'_1.1 hi).2
  generalize List.range' 0 n 1 = l at hl ⊢
  induction l with
  | nil => simp
  | cons i l ih =>
    have hi : i < n := hl i (by simp)
    have px : (part 5 (xs.map (Value.int .u8)).toArray (i * 1)).run Tryz.prog w = .ok (.int .u8 (xs.getD i 0)) w := by
      simp [part, isAgg, run_underlying Tryz.underlying5, List.getD, List.getElem?_eq_getElem (show i < xs.length by omega)]
    have py : (part 5 (ys.map (Value.int .u8)).toArray (i * 1)).run Tryz.prog w = .ok (.int .u8 (ys.getD i 0)) w := by
      simp [part, isAgg, run_underlying Tryz.underlying5, List.getD, List.getElem?_eq_getElem (show i < ys.length by omega)]
    have pe : (Op.equalIn (d + 1) 5 (.int .u8 (xs.getD i 0)) (.int .u8 (ys.getD i 0))).run Tryz.prog w = .ok (xs.getD i 0 == ys.getD i 0) w :=
      run_equalIn_int w d 5 .u8 .u8 _ _ Tryz.underlying5
    simp only [List.forIn_cons, Sem.run_bind, px, py, pe, Result.andThen_ok, List.all_cons]
    cases hb : (xs.getD i 0 == ys.getD i 0)
    · simp
    · simp only [Bool.not_true, Bool.false_eq_true, if_false, Sem.run_pure, Result.andThen_ok, Bool.true_and]
      exact ih fun j hj => hl j (by simp [hj])
theorem run_agg32 (w : World) : (isAgg 32).run Tryz.prog w = .ok true w := by kernel_rfl
theorem run_agg3 (w : World) : (isAgg 3).run Tryz.prog w = .ok false w := by kernel_rfl
theorem run_size32 (w : World) : (sizeOf 32).run Tryz.prog w = .ok 32 w := by
  cases hq : Tryz.prog.info? 32 with
  | none => have := info32; rw [hq] at this; cases this
  | some i => have h := info32; rw [hq] at h; simp at h; simp [sizeOf, typeInfo, hq, h]
theorem part_key (o : Ob) (h : o.Ok) (w : World) : (part 32 o.vals.toArray 0).run Tryz.prog w = .ok (.agg (o.key.map (Value.int .u8)).toArray) w := by
  unfold part
  simp only [Sem.run_bind, run_agg32, Result.andThen_ok, if_true, run_size32, Sem.run_pure]
  congr 2
  apply Array.ext'
  simp [List.extract_eq_take_drop, Ob.vals]
  rw [List.take_append_of_le_length (by simp [h.len]), List.take_of_length_le (by simp [h.len])]
theorem part_first (o : Ob) (h : o.Ok) (w : World) : (part 3 o.vals.toArray 32).run Tryz.prog w = .ok (.int .i64 o.first) w := by
  unfold part
  have : o.vals[32]? = some (.int .i64 o.first) := by
    rw [Ob.vals, List.getElem?_append_right (by simp [h.len])]; simp [h.len]
  simp [Sem.run_bind, run_agg3, this]
theorem part_size (o : Ob) (h : o.Ok) (w : World) : (part 3 o.vals.toArray 33).run Tryz.prog w = .ok (.int .i64 o.size) w := by
  unfold part
  have : o.vals[33]? = some (.int .i64 o.size) := by
    rw [Ob.vals, List.getElem?_append_right (by simp [h.len])]; simp [h.len]
  simp [Sem.run_bind, run_agg3, this]
theorem fields62 : Tryz.prog.fieldsOf 62 = #[⟨"key", 32, 0, false, "", "interleaf/shelf", 0⟩, ⟨"first", 3, 32, false, "", "interleaf/shelf", 32⟩, ⟨"size", 3, 33, false, "", "interleaf/shelf", 40⟩] := by kernel_rfl
/-- Two objects are compared. -/
theorem run_eql_ob (o1 o2 : Ob) (h1 : o1.Ok) (h2 : o2.Ok) (w : World) : (binOp .eql 62 (.agg o1.vals.toArray) (.agg o2.vals.toArray)).run Tryz.prog w = .ok (.bool (decide (o1 = o2))) w := by
  have hu : Tryz.prog.underlying 62 = some (.struct (Tryz.prog.fieldsOf 62)) := by rw [fields62]; kernel_rfl
  have main : (Op.equalIn (9999 + 1) 62 (.agg o1.vals.toArray) (.agg o2.vals.toArray)).run Tryz.prog w = .ok (decide (o1 = o2)) w := by
    rw [run_equalIn_struct w 9999 62 _ _ hu (by kernel_rfl), fields62]
    have e1 := equalIn_bytes 32 32 9997 Tryz.underlying32 o1.key o2.key h1.len h2.len w
    have e2 := run_equalIn_int w 9998 3 .i64 .i64 o1.first o2.first Tryz.underlying3
    have e3 := run_equalIn_int w 9998 3 .i64 .i64 o1.size o2.size Tryz.underlying3
    simp only [Op.eqFields, Sem.run_bind, Sem.run_ite, part_key o1 h1, part_key o2 h2, part_first o1 h1, part_first o2 h2, part_size o1 h1, part_size o2 h2, Result.andThen_ok, e1, e2, e3]
    obtain ⟨k1, f1, s1⟩ := o1
    obtain ⟨k2, f2, s2⟩ := o2
    simp only [Ob.mk.injEq]
    by_cases a1 : k1 = k2
    · by_cases a2 : f1 = f2
      · by_cases a3 : s1 = s2
        · simp [a1, a2, a3]
        · simp [a1, a2, a3]
      · simp [a1, a2]
    · simp [a1]
  rw [run_eql_struct]
  have := main
  simp only [Nat.reduceAdd] at this
  rw [this]
  rfl
end Go.Proofs.YtboofamenpcnhaaGreatDoor
namespace Go.Proofs.YtboofamenpcnhaaGreatDoor
set_option maxRecDepth 100000
open Go.RowKit
set_option linter.unusedVariables false
set_option linter.unusedSimpArgs false
theorem heap_setCells (b : Nat) (T : TypeId) : ∀ (vs : List Value) (o : Nat) (w : World) (cs : List Value), w.heap[b]? = some (.cells cs.toArray T (0, 0)) → o + vs.length ≤ cs.length →
    (w.setCells b o vs).heap[b]? = some (.cells (cs.take o ++ vs ++ cs.drop (o + vs.length)).toArray T (0, 0))
  | [], o, w, cs, h, _ => by simp [World.setCells, h]
  | v :: vs, o, w, cs, h, hl => by
    have hl' : o + vs.length + 1 ≤ cs.length := by simpa [Nat.add_assoc] using hl
    have h1 := heap_setCell_same w b o cs.toArray T v h
    rw [show cs.toArray.setIfInBounds o v = (cs.set o v).toArray by simp] at h1
    have := heap_setCells b T vs (o + 1) _ _ h1 (by simp; omega)
    simp only [World.setCells]
    rw [this]
    congr 2
    apply congrArg List.toArray
    rw [List.take_succ_eq_append_getElem (by simp; omega), List.take_set_of_le (Nat.le_refl _), List.drop_set_of_lt (by omega)]
    simp [Nat.add_assoc, Nat.add_comm 1]
/-- A new variable of type T that holds these cells. -/
structure Box (w0 w' : World) (T : TypeId) (cs : List Value) : Prop where
  heap : w'.heap[w0.heap.size]? = some (.cells cs.toArray T (0, 0))
  size : w'.heap.size = w0.heap.size + 1
  turn : Turn (fun _ => False) w0 w'
theorem box_alloc (w : World) (T : TypeId) (cs : List Value) : Box w (w.alloc (.cells cs.toArray T)) T cs := ⟨heap_alloc_new w _, by simp, (Turn.refl _ w).alloc _⟩
theorem box_set (w : World) (T : TypeId) (zs cs : List Value) (hl : zs.length = cs.length) : Box w ((w.alloc (.cells zs.toArray T)).setCells w.heap.size 0 cs) T cs := by
  have t := turn_setCells w.heap.size cs 0 (w.alloc (.cells zs.toArray T))
  refine ⟨?_, ?_, ((Turn.refl (fun _ => False) w).alloc _).trans t (fun q hq e => by omega)⟩
  · have := heap_setCells w.heap.size T cs 0 _ zs (heap_alloc_new w _) (by omega)
    rw [this]
    simp [hl]
  · have : ∀ (vs : List Value) (o : Nat) (w : World) (b : Nat), (w.setCells b o vs).heap.size = w.heap.size := by
      intro vs
      induction vs with
      | nil => intro o w b; rfl
      | cons v vs ih => intro o w b; simp only [World.setCells]; rw [ih]; simp
    rw [this]; simp
section
variable {w0 w w' : World} {T : TypeId} {cs : List Value}
theorem Box.range (h : Box w0 w' T cs) : w'.rangeAt w0.heap.size 0 cs := fun j v hj => by rw [Nat.zero_add, cell_of_row w' _ j _ T (0, 0) h.heap]; simpa using hj
theorem Box.cell (h : Box w0 w' T cs) (j : Nat) (v : Value) (hj : cs[j]? = some v) : w'.cell? ⟨w0.heap.size, j, none⟩ = some v := by rw [cell_of_row w' _ j _ T (0, 0) h.heap]; simpa using hj
theorem Box.free (h : Box w0 w' T cs) (j : Nat) : w'.frozen? ⟨w0.heap.size, j, none⟩ = false := frozen_of_row w' _ j _ T h.heap
end
theorem there_row {w : World} {b : Nat} {T : TypeId} {cs : List Value} (h : w.heap[b]? = some (.cells cs.toArray T (0, 0))) : w.there b 0 cs.length := fun j hj => by
  refine ⟨?_, frozen_of_row w b _ _ T h⟩
  rw [cell_of_row w b _ _ T (0, 0) h]
  simp [hj]
section
variable {P : Program} {n : Nat} {ops : Array Oper} {Q : Exit → Act → World → Prop} {a : Act} {o : Oper} {rest : List Oper}
/-- A store of all cells into the variable that was made last. -/
theorem inL_box {ro : Option Nat} (w0 : World) (T : TypeId) (zs cs : List Value) (hl : zs.length = cs.length) (h1 : ∀ v ∈ cs, v.oneCell' = true) (hi : (P.info? T).map (·.size) = some cs.length)
    (hw : Region.wanted o (yielded ops a.tmps) = true) (x y : Operand) (ho : o.op = .store T x y) (hx : a.eval x = .pointer (some ⟨w0.heap.size, 0, none⟩)) (hy : a.eval y = .agg cs.toArray)
    (h : ∀ w', Box w0 w' T cs → wpListIn (FW ro) n P ops Q rest (a.put o.dst undef) w') : wpListIn (FW ro) n P ops Q (o :: rest) a (w0.alloc (.cells zs.toArray T)) :=
  inL_store hw T x y ho w0.heap.size 0 cs.toArray hx hy (by have := there_row (heap_alloc_new w0 (.cells zs.toArray T)); rw [hl] at this; simpa using this) (by simpa using hi) (all_oneCell_toArray h1) (h _ (box_set w0 T zs cs hl))
theorem list_box (w0 : World) (T : TypeId) (zs cs : List Value) (hl : zs.length = cs.length) (h1 : ∀ v ∈ cs, v.oneCell' = true) (hi : (P.info? T).map (·.size) = some cs.length)
    (hgd : o.guard = none) (x y : Operand) (ho : o.op = .store T x y) (hx : a.eval x = .pointer (some ⟨w0.heap.size, 0, none⟩)) (hy : a.eval y = .agg cs.toArray)
    (h : ∀ w', Box w0 w' T cs → wpList P ops Q rest (a.put o.dst undef) w') : wpList P ops Q (o :: rest) a (w0.alloc (.cells zs.toArray T)) :=
  wpList_store_mid hgd T x y ho w0.heap.size 0 cs.toArray hx hy (by have := there_row (heap_alloc_new w0 (.cells zs.toArray T)); rw [hl] at this; simpa using this) (by simpa using hi) (all_oneCell_toArray h1) (h _ (box_set w0 T zs cs hl))
end
theorem grown_of_turn {w w' : World} (h : Turn (fun _ => False) w w') : w.grownBy w' none := ⟨h.os, h.tape, h.output, h.size, fun k hk _ => h.block k hk id⟩
theorem turn_of_below {w w' : World} (h : Below w.heap.size w w') : Turn (fun _ => False) w w' := ⟨h.os, h.tape, h.output, h.size, fun k hk _ => h.block k hk⟩
/-- The zero values. -/
def z62 : List Value := ob0.vals
def z32 : List Value := (List.replicate 32 (0 : Int)).map (Value.int .u8)
theorem zero62 (w : World) : (zeroValue 62).run Tryz.prog w = .ok (.agg z62.toArray) w := by kernel_rfl
theorem zero32 (w : World) : (zeroValue 32).run Tryz.prog w = .ok (.agg z32.toArray) w := by kernel_rfl
theorem ShAt.set {w : World} {S J M : Nat} {sl : List Ob} (h : ShAt w S J M sl) (k : Nat) (hk : k < 48) (o : Ob) (ho : o.Ok) : ShAt (w.setCells S (1 + k * 34) o.vals) S J M (sl.set k o) := by
  have hv := h.vlen
  have := heap_setCells S 76 o.vals (1 + k * 34) w (shV J M sl) h.at_ (by simp [shV, hv, ho.vlen]; omega)
  refine ⟨?_, by simpa using h.len, fun x hx => ?_⟩
  · rw [this]
    congr 2
    apply congrArg List.toArray
    unfold shV
    rw [obsV_set h.ok o ho k (by rw [h.len]; exact hk), ho.vlen, Nat.add_comm 1 (k * 34), List.take_succ_cons, show k * 34 + 1 + 34 = k * 34 + 34 + 1 by omega, List.drop_succ_cons, List.take_append_of_le_length (by omega), List.drop_append_of_le_length (by omega)]
    simp
  · rcases List.mem_or_eq_of_mem_set hx with h1 | h1
    · exact h.ok x h1
    · subst h1; exact ho
end Go.Proofs.YtboofamenpcnhaaGreatDoor
namespace Go.Proofs.YtboofamenpcnhaaGreatDoor
set_option maxRecDepth 100000
open Go.RowKit Go.Shelf
set_option linter.unusedVariables false
set_option linter.unusedSimpArgs false
attribute [local go_sem] Oper.semAt_some
/-- Here the walk stands still. -/
def Still (p : Prop) : Prop := p
theorem still {p : Prop} (h : Still p) : p := h
/-- Slots as they may be. -/
structure SGood (sl : List Ob) : Prop where
  len : sl.length = 48
  ok : ∀ o ∈ sl, o.Ok
theorem ShAt.sgood {w : World} {S J M : Nat} {sl : List Ob} (h : ShAt w S J M sl) : SGood sl := ⟨h.len, h.ok⟩
theorem SGood.get {sl : List Ob} (h : SGood sl) (k : Nat) (hk : k < 48) : (sl.getD k ob0).Ok := by
  have : sl.getD k ob0 = sl[k]'(by rw [h.len]; exact hk) := by simp [List.getD, h.len, hk]
  rw [this]
  exact h.ok _ (List.getElem_mem _)
/-- A slot and its object. -/
abbrev OX := { x : Nat × Ob // x.1 < 48 ∧ x.2.Ok }
def oxV (x : OX) : Array Value := #[.int .i64 (x.1.1 : Int), .agg x.1.2.vals.toArray]
def objsTo (sl : List Ob) (h : SGood sl) : Nat → List OX
  | 0 => []
  | k + 1 => if hk : k < 48 ∧ 0 < (sl.getD k ob0).size then objsTo sl h k ++ [⟨(k, sl.getD k ob0), hk.1, h.get k hk.1⟩] else objsTo sl h k
theorem objsTo_len (sl : List Ob) (h : SGood sl) : ∀ k, (objsTo sl h k).length ≤ k
  | 0 => Nat.le_refl _
  | k + 1 => by
    have := objsTo_len sl h k
    unfold objsTo
    split
    · simp; omega
    · omega
theorem objects_any (v : Value) (w : World) (hv : ∃ p, v = .pointer p) : Calls Tryz.prog 33 #[v] w fun e w' => e = .returned (.func (.func 65) #[] #[.pointer (some ⟨w.heap.size, 0, none⟩)]) ∧ w' = w.alloc (.cells #[v] 26) := by
  obtain ⟨p, rfl⟩ := hv
  go_enter Tryz.func33, Tryz.ntmps33
  go_wp2_with fail
  go_ret
  exact ⟨rfl, rfl⟩
set_option maxHeartbeats 4000000 in
theorem objs1_in (n l Bs S J M : Nat) (sl : List Ob) (hg : SGood sl) (Jp Jx : List OX → World → Prop) (W : World) (hJ : AbidesFrom W.heap.size Jp)
    (hY : ∀ pre x W1, Jp pre W1 → pre.length < 48 → YieldAt (FW none) (n - 1) Tryz.prog l (oxV x) W1 fun e W' => (e = .returned (.bool true) ∧ Jp (pre ++ [x]) W' ∧ KeepsWalks W1 W') ∨ (e = .returned (.bool false) ∧ Jx (pre ++ [x]) W'))
    (hc : W.cell? ⟨Bs, 0, none⟩ = some (.pointer (some ⟨S, 0, none⟩))) (hs : ShAt W S J M sl) (h0 : Jp [] W) :
    CallsIn (FW none) n Tryz.prog 65 #[.func (.yield l) #[] #[], .pointer (some ⟨Bs, 0, none⟩)] W fun e W' => (∃ v, e = .returned v) ∧ ((∃ xs, xs = objsTo sl hg 48 ∧ Jp xs W') ∨ (∃ pre, (∃ k, k ≤ 48 ∧ pre = objsTo sl hg k) ∧ Jx pre W')) := by
  have hz := zero62
  have hrg := hs.range
  have hvl := hs.vlen
  refine callsIn_of_wp Tryz.func65 rfl trivial ?_ rfl
  simp only [Tryz.ntmps65, List.size_toArray, List.length_cons, List.length_nil, Nat.reduceAdd, Nat.reduceSub, Array.replicate_succ, Array.replicate_zero, List.push_toArray, List.append_toArray, List.nil_append, List.cons_append]
  gi_wp2_with (with_reducible (show wpListIn _ _ _ _ _ (Oper.mk (some 10) (.load 73 (.tmp 9)) _ _ _ _ :: _) _ _); refine inL_load (ro := none) rfl 73 (.tmp 9) rfl S 1 rfl (obsV sl) _ hrg Tryz.underlying73 rfl (by rw [hvl]; exact info73) ?_)
  have HJ := Lib.hid hJ
  have HY := Lib.hid hY
  clear hJ hY hc hrg hs
  gi_loopw [11] (fun i wr => ∃ k : Nat, k ≤ 48 ∧ i = .int .i64 (k : Int) ∧ Jp (objsTo sl hg k) wr) (fun i _ => 48 - (intOf i).toNat)
  case atStart => exact ⟨0, Nat.zero_le _, rfl, h0⟩
  case round =>
    obtain ⟨k, hk, rfl, hJs⟩ := hrel
    have HJS := Lib.hid hJs
    clear hJs
    by_cases hlt : k < 48
    · have hidx := fun w => run_index_ob sl hg.len hg.ok k hlt w
      have hok := hg.get k hlt
      have hnext : objsTo sl hg (k + 1) = if hk : k < 48 ∧ 0 < (sl.getD k ob0).size then objsTo sl hg k ++ [⟨(k, sl.getD k ob0), hk.1, hg.get k hk.1⟩] else objsTo sl hg k := rfl
      by_cases hpos : 0 < (sl.getD k ob0).size
      · rw [dif_pos ⟨hlt, hpos⟩] at hnext
        have HN := Lib.hid hnext
        clear hnext
        have hx : ∃ x : OX, x.1 = (k, sl.getD k ob0) ∧ objsTo sl hg (k + 1) = objsTo sl hg k ++ [x] := ⟨_, rfl, HN.out⟩
        obtain ⟨x, hx1, hx2⟩ := hx
        have HX := Lib.hid hx2
        have hx3 : oxV x = #[.int .i64 (k : Int), .agg (sl.getD k ob0).vals.toArray] := by unfold oxV; rw [hx1]
        clear HN hx2 hx1
        generalize sl.getD k ob0 = ob at hidx hok hpos hx3
        have hd : decide ((0 : Int) < ob.size) = true := by simp [hpos]
        gi_wp2_with (with_reducible (show wpListIn _ _ _ _ _ (Oper.mk none (.store 62 (.tmp 4) (.tmp 14)) _ _ _ _ :: _) _ _); refine still ?_)
        refine inL_box (ro := none) wr 62 z62 ob.vals (by rw [hok.vlen]; rfl) ob.vals_one (by rw [hok.vlen]; exact info62) rfl (.tmp 4) (.tmp 14) rfl rfl rfl ?_
        intro W2 hB
        have c33 := hB.cell 33 (.int .i64 ob.size) (by rw [Ob.vals, List.getElem?_append_right (by simp [hok.len])]; simp [hok.len])
        have hB2 := hB.range
        obtain ⟨fn, tmps, assign, body, hy, hR⟩ := HY.out _ x W2 (HJ.out _ _ _ none HJS.out (grown_of_turn hB.turn) (fun r e => by cases e)) (by have := objsTo_len sl hg k; omega)
        rw [hx3] at hy
        gi_wp2_with (with_reducible (show wpListIn _ _ _ _ _ (Oper.mk (some 21) (.load 62 (.tmp 4)) _ _ _ _ :: _) _ _); refine inL_load (ro := none) rfl 62 (.tmp 4) rfl wr.heap.size 0 rfl ob.vals _ hB2 Tryz.underlying62 rfl (by rw [hok.vlen]; exact info62) ?_)
        refine ⟨(by intro h; cases h), hR.mono ?_⟩
        rintro e W3 (⟨rfl, hJ3, hk3⟩ | ⟨rfl, hJx3⟩)
        · have HJ3 := Lib.hid hJ3
          clear hJ3
          gi_wp2
          go_roundw
          case rel => exact ⟨k + 1, by omega, by simp, by rw [HX.out]; exact HJ3.out⟩
          case measure => simp [intOf]; omega
        · have HJ3 := Lib.hid hJx3
          clear hJx3
          gi_wp2
          refine bodyPost_ret (results_none rfl _ _ _) rfl ?_
          exact ⟨⟨_, rfl⟩, .inr ⟨_, ⟨k + 1, by omega, HX.out.symm⟩, HJ3.out⟩⟩
      · rw [dif_neg (fun h => hpos h.2)] at hnext
        have HX := Lib.hid hnext
        clear hnext
        generalize sl.getD k ob0 = ob at hidx hok hpos
        have hd : decide ((0 : Int) < ob.size) = false := by simp; omega
        gi_wp2_with (with_reducible (show wpListIn _ _ _ _ _ (Oper.mk none (.store 62 (.tmp 4) (.tmp 14)) _ _ _ _ :: _) _ _); refine still ?_)
        refine inL_box (ro := none) wr 62 z62 ob.vals (by rw [hok.vlen]; rfl) ob.vals_one (by rw [hok.vlen]; exact info62) rfl (.tmp 4) (.tmp 14) rfl rfl rfl ?_
        intro W2 hB
        have c33 := hB.cell 33 (.int .i64 ob.size) (by rw [Ob.vals, List.getElem?_append_right (by simp [hok.len])]; simp [hok.len])
        have HJ2 := Lib.hid (HJ.out _ _ _ none HJS.out (grown_of_turn hB.turn) (fun r e => by cases e))
        clear hB
        gi_wp2
        refine ⟨fun _ h => (by cases h), ?_⟩
        gi_wp2
        go_roundw
        case rel => exact ⟨k + 1, by omega, by simp, by rw [HX.out]; exact HJ2.out⟩
        case measure => simp [intOf]; omega
    · obtain rfl : k = 48 := by omega
      gi_wp2
      go_end0
      exact ⟨⟨_, rfl⟩, .inl ⟨_, rfl, HJS.out⟩⟩
/-- A shelf's objects, as the law of a range over a function asks for them. -/
theorem objs_stops (n Bs S J M : Nat) (sl : List Ob) (hg : SGood sl) (w : World) (hBs : Bs < w.heap.size) (hc : w.cell? ⟨Bs, 0, none⟩ = some (.pointer (some ⟨S, 0, none⟩))) (hs : ShAt w S J M sl) :
    SeqStopsA (FW none) n Tryz.prog 65 #[.pointer (some ⟨Bs, 0, none⟩)] oxV (fun xs => xs = objsTo sl hg 48) (fun pre => ∃ k, k ≤ 48 ∧ pre = objsTo sl hg k) 48 w := fun l Jp Jx W hW hJ hJx hY h0 =>
  objs1_in n l Bs S J M sl hg Jp Jx W hJ hY ((hW.cell (p := ⟨Bs, 0, none⟩) hBs).trans hc) (hs.below hW hs.lt) h0
end Go.Proofs.YtboofamenpcnhaaGreatDoor
namespace Go.Proofs.YtboofamenpcnhaaGreatDoor
set_option maxRecDepth 100000
open Go.RowKit Go.Shelf
set_option linter.unusedVariables false
set_option linter.unusedSimpArgs false
attribute [local go_sem] Oper.semAt_some
theorem objsTo_mem (sl : List Ob) (h : SGood sl) (x : OX) : ∀ k, x ∈ objsTo sl h k ↔ x.1.1 < k ∧ x.1.2 = sl.getD x.1.1 ob0 ∧ 0 < x.1.2.size
  | 0 => by simp [objsTo]
  | k + 1 => by
    have ih := objsTo_mem sl h x k
    unfold objsTo
    split
    · rename_i hk
      rw [List.mem_append, ih]
      constructor
      · rintro (h1 | h1)
        · exact ⟨by omega, h1.2⟩
        · obtain rfl := List.mem_singleton.1 h1
          exact ⟨by show k < k + 1; omega, rfl, hk.2⟩
      · rintro ⟨h1, h2, h3⟩
        by_cases e : x.1.1 = k
        · right
          refine List.mem_singleton.2 (Subtype.ext (Prod.ext e ?_))
          rw [h2, e]
        · left; exact ⟨by omega, h2, h3⟩
    · rename_i hk
      rw [ih]
      constructor
      · rintro ⟨h1, h2⟩; exact ⟨by omega, h2⟩
      · rintro ⟨h1, h2, h3⟩
        refine ⟨?_, h2, h3⟩
        by_cases e : x.1.1 = k
        · exfalso; apply hk; rw [← e]; exact ⟨x.2.1, by rw [← h2]; exact h3⟩
        · omega
theorem info62v {o : Ob} (h : o.Ok) : (Tryz.prog.info? 62).map (·.size) = some o.vals.toArray.size := by rw [info62]; simp [h.vlen]
def keyV (k : List Int) : List Value := k.map (Value.int .u8)
theorem info32k {k : List Int} (h : k.length = 32) : (Tryz.prog.info? 32).map (·.size) = some (keyV k).length := by rw [keyV, List.length_map, h]; exact info32
/-- Is there an object of a key? -/
def FindPost (w : World) (sl : List Ob) (key : List Int) (e : Ending) (w' : World) : Prop :=
  Turn (fun _ => False) w w' ∧ ((∃ k, k < 48 ∧ 0 < (sl.getD k ob0).size ∧ (sl.getD k ob0).key = key ∧ e = .returned (.tuple #[.int .i64 (k : Int), .agg (sl.getD k ob0).vals.toArray, .bool true])) ∨
    ((∀ k, k < 48 → 0 < (sl.getD k ob0).size → (sl.getD k ob0).key ≠ key) ∧ e = .returned (.tuple #[.int .i64 0, .agg z62.toArray, .bool false])))
theorem own_range {b o : Nat} {cs : List Value} {W W' : World} {row : Option Nat} (h : W.rangeAt b o cs) (hg : W.grownBy W' row) (hrow : ∀ r, row = some r → ∃ o : Obj, W.heap[r]? = some o ∧ o.isCells = false) : W'.rangeAt b o cs := fun j v hj => cell_kept (h j v hj) hg hrow
theorem Box.later {w0 w' w'' : World} {T : TypeId} {cs : List Value} (h : Box w0 w' T cs) (t : Turn (fun _ => False) w' w'') : w''.heap[w0.heap.size]? = some (.cells cs.toArray T (0, 0)) := (t.block _ (by rw [h.size]; omega) id).trans h.heap
theorem keeps_setCells (b : Nat) : ∀ (vs : List Value) (o : Nat) (W : World), KeepsOthers W (W.setCells b o vs)
  | [], _, W => KeepsOthers.refl W
  | v :: vs, o, W => (KeepsOthers.setCell W ⟨b, o, none⟩ v).trans (keeps_setCells b vs (o + 1) _)
structure FS (w W : World) (S : Nat) (key : List Int) : Prop where
  k0 : W.heap[w.heap.size]? = some (.cells (keyV key).toArray 32 (0, 0))
  r1 : W.heap[w.heap.size + 1]? = some (.cells #[.int .i64 0] 3 (0, 0))
  r2 : W.heap[w.heap.size + 1 + 1]? = some (.cells z62.toArray 62 (0, 0))
  r3 : W.heap[w.heap.size + 1 + 1 + 1]? = some (.cells #[.bool false] 4 (0, 0))
  r4 : W.cell? ⟨w.heap.size + 1 + 1 + 1 + 1, 0, none⟩ = some (.pointer (some ⟨S, 0, none⟩))
  size : W.heap.size = w.heap.size + 1 + 1 + 1 + 1 + 1
  turn : Turn (fun _ => False) w W
theorem find_start (w : World) (S : Nat) (key : List Int) : FS w (((((w.alloc (.cells (keyV key).toArray 32)).alloc (.cells #[.int .i64 0] 3)).alloc (.cells z62.toArray 62)).alloc (.cells #[.bool false] 4)).alloc (.cells #[.pointer (some ⟨S, 0, none⟩)] 26)) S key := by
  have b1 := box_alloc w 32 (keyV key)
  have b2 := box_alloc (w.alloc (.cells (keyV key).toArray 32)) 3 [.int .i64 0]
  have b3 := box_alloc ((w.alloc (.cells (keyV key).toArray 32)).alloc (.cells #[.int .i64 0] 3)) 62 z62
  have b4 := box_alloc (((w.alloc (.cells (keyV key).toArray 32)).alloc (.cells #[.int .i64 0] 3)).alloc (.cells z62.toArray 62)) 4 [.bool false]
  have b5 := box_alloc ((((w.alloc (.cells (keyV key).toArray 32)).alloc (.cells #[.int .i64 0] 3)).alloc (.cells z62.toArray 62)).alloc (.cells #[.bool false] 4)) 26 [.pointer (some ⟨S, 0, none⟩)]
  have t34 := b4.turn.trans b5.turn (fun _ _ => id)
  have t24 := b3.turn.trans t34 (fun _ _ => id)
  have t14 := b2.turn.trans t24 (fun _ _ => id)
  have e2 := b2.later t24
  have e3 := b3.later t34
  have e4 := b4.later b5.turn
  have e5 := b5.cell 0 _ rfl
  rw [World.size_alloc] at e2 e3 e4 e5
  rw [World.size_alloc] at e3 e4 e5
  rw [World.size_alloc] at e4 e5
  rw [World.size_alloc] at e5
  exact ⟨b1.later t14, e2, e3, e4, e5, by simp, b1.turn.trans t14 (fun _ _ => id)⟩
theorem find_results (w W : World) (slot : Int) (vs : List Value) (b : Bool) (h1 : W.cell? ⟨w.heap.size + 1, 0, none⟩ = some (.int .i64 slot)) (h2 : W.rangeAt (w.heap.size + 1 + 1) 0 vs) (h3 : W.cell? ⟨w.heap.size + 1 + 1 + 1, 0, none⟩ = some (.bool b))
    (hi : (Tryz.prog.info? 62).map (·.size) = some vs.toArray.size) (tmps : Array Value) (t4 : tmps.getD 4 undef = .pointer (some ⟨w.heap.size + 1, 0, none⟩)) (t5 : tmps.getD 5 undef = .pointer (some ⟨w.heap.size + 1 + 1, 0, none⟩)) (t6 : tmps.getD 6 undef = .pointer (some ⟨w.heap.size + 1 + 1 + 1, 0, none⟩)) :
    (results Tryz.f26 tmps).run Tryz.prog W = .ok (.tuple #[.int .i64 slot, .agg vs.toArray, .bool b]) W := by
  have hl := run_loadVar_mid (P := Tryz.prog) W (w.heap.size + 1 + 1) 0 62 vs _ h2 Tryz.underlying62 rfl (by simpa using hi)
  have e4 : tmps[4]?.getD undef = .pointer (some ⟨w.heap.size + 1, 0, none⟩) := by simpa using t4
  have e5 : tmps[5]?.getD undef = .pointer (some ⟨w.heap.size + 1 + 1, 0, none⟩) := by simpa using t5
  have e6 : tmps[6]?.getD undef = .pointer (some ⟨w.heap.size + 1 + 1 + 1, 0, none⟩) := by simpa using t6
  have l3 : (loadVar 3 ⟨w.heap.size + 1, 0, none⟩).run Tryz.prog W = .ok (.int .i64 slot) W := by simp [go_sem, h1]
  have l4 : (loadVar 4 ⟨w.heap.size + 1 + 1 + 1, 0, none⟩).run Tryz.prog W = .ok (.bool b) W := by simp [go_sem, h3]
  have hr : Tryz.f26.results = #[.cell 4 3, .cell 5 62, .cell 6 4] := by kernel_rfl
  simp [results, hr, e4, e5, e6, asAddr, hl, l3, l4]
set_option maxHeartbeats 4000000 in
theorem find_in (n : Nat) (hn : 3 ≤ n) (S J M : Nat) (sl : List Ob) (key : List Int) (hk : key.length = 32) (w : World) (hs : ShAt w S J M sl) :
    CallsIn (FW none) n Tryz.prog 26 #[.pointer (some ⟨S, 0, none⟩), .agg (keyV key).toArray] w (FindPost w sl key) := by
  have hg := hs.sgood
  have h1 : 1 ≤ n := by omega
  have hz := zero62
  have hz3 := zero32
  have hfs := find_start w S key
  refine callsIn_of_wp_marks Tryz.func26 rfl trivial ?_ rfl
  simp only [Tryz.ntmps26, List.size_toArray, List.length_cons, List.length_nil, Nat.reduceAdd, Nat.reduceSub, Array.replicate_succ, Array.replicate_zero, List.push_toArray, List.append_toArray, List.nil_append, List.cons_append]
  gi_wp2
  refine ⟨trivial, ?_⟩
  refine (calls_wide (ro := none) (objects_any _ _ ⟨_, rfl⟩)).mono ?_
  rintro e w' ⟨rfl, rfl⟩
  generalize (((((w.alloc (.cells (keyV key).toArray 32)).alloc (.cells #[.int .i64 0] 3)).alloc (.cells z62.toArray 62)).alloc (.cells #[.bool false] 4)).alloc (.cells #[.pointer (some ⟨S, 0, none⟩)] 26)) = W5 at hfs ⊢
  simp only [World.size_alloc]
  have HF := Lib.hid hfs
  clear hfs
  gi_wp2
  have hsz := HF.out.size
  refine wpIn_rangeFunc_ownH rfl h1 (gf := 65) (lb := #[.pointer (some ⟨w.heap.size + 1 + 1 + 1 + 1, 0, none⟩)]) rfl trivial (enters_of Tryz.func65 (by kernel_rfl) rfl)
    (encs := fun x : OX => #[.int .i64 (x.1.1 : Int), .agg x.1.2.vals.toArray]) (Kp := KeepsWalks)
    (seqStopsA_iff.1 (objs_stops (n - 1) (w.heap.size + 1 + 1 + 1 + 1) S J M sl hg W5 (by rw [hsz]; omega) HF.out.r4 (hs.turn HF.out.turn id))) walksK_t walksK_b (Below.refl _ _) (fun _ => rfl)
    (fun pre W => (∀ x ∈ pre, x.1.2.key ≠ key) ∧ Below W5.heap.size W5 W)
    (fun c pre W => (c = .ret ∧ ∃ ini last, pre = ini ++ [last] ∧ last.1.2.key = key ∧ W.cell? ⟨w.heap.size + 1, 0, none⟩ = some (.int .i64 (last.1.1 : Int)) ∧ W.rangeAt (w.heap.size + 1 + 1) 0 last.1.2.vals ∧ W.cell? ⟨w.heap.size + 1 + 1 + 1, 0, none⟩ = some (.bool true)) ∧ Below w.heap.size w W)
    (OwnFrom.and (fun s A B row hs hg hr => hs) (ownFrom_below (Nat.le_refl _) (Nat.le_refl _)))
    (fun c => OwnFrom.and (Own.from (fun s A B row hs hg hr => by
      obtain ⟨hc, ini, last, e1, e2, e3, e4, e5⟩ := hs
      exact ⟨hc, ini, last, e1, e2, cell_kept e3 hg hr, own_range e4 hg hr, cell_kept e5 hg hr⟩) _) (ownFrom_below (Nat.le_refl _) (by rw [hsz]; omega)))
    ⟨(by simp), Below.refl _ _⟩
    (fun x a' W => ∃ Bx, W5.heap.size ≤ Bx ∧ W.heap[Bx]? = some (.cells x.1.2.vals.toArray 62 (0, 0)) ∧ a' = { tmps := #[.pointer (some ⟨S, 0, none⟩), .agg (keyV key).toArray, undef, .pointer (some ⟨w.heap.size, 0, none⟩), .pointer (some ⟨w.heap.size + 1, 0, none⟩), .pointer (some ⟨w.heap.size + 1 + 1, 0, none⟩), .pointer (some ⟨w.heap.size + 1 + 1 + 1, 0, none⟩), .int .i64 (x.1.1 : Int), .pointer (some ⟨Bx, 0, none⟩), .pointer (some ⟨S, 0, none⟩), .func (.func 65) #[] #[.pointer (some ⟨w.heap.size + 1 + 1 + 1 + 1, 0, none⟩)], .int .i64 (x.1.1 : Int), .agg x.1.2.vals.toArray, undef, undef, undef, undef, undef, undef, undef], defers := [] })
    (fun x a' s A B row hs hg hr => by
      obtain ⟨Bx, e1, e2, e3⟩ := hs
      exact ⟨Bx, e1, (grownBy_keeps_cells hg (fun r e => (hr r e).2) e2 rfl).trans e2, e3⟩) ?assign ?body ?done ?stop
  case assign =>
    intro l pre x W K hI hK
    have hok := x.2.2
    gi_wp2_with (with_reducible (show wpListIn _ _ _ _ _ (Oper.mk none (.store 62 (.tmp 8) (.tmp 12)) _ _ _ _ :: _) _ _); refine still ?_)
    refine inL_box (ro := some l) W 62 z62 x.1.2.vals (by rw [hok.vlen]; rfl) x.1.2.vals_one (by rw [hok.vlen]; exact info62) rfl (.tmp 8) (.tmp 12) rfl rfl rfl ?_
    intro W2 hB
    gi_wp2
    have hgr := grown_of_turn hB.turn
    exact hK _ _ (KeepsFrom.of_grownBy hgr (fun j e => by cases e)) (KeepsWalks.of_grownBy hgr (fun j o e => by cases e)) ⟨hI.1, hI.2.trans (hI.2.size |> fun hsz2 => ((Below.refl _ W).grown hgr hsz2 (fun k e => by cases e)))⟩ ⟨W.heap.size, hI.2.size, hB.heap, rfl⟩
  case body =>
    rintro l pre x a' W hl hr ⟨hne, hB⟩ ⟨Bx, hBx, hbx, rfl⟩ hlen
    have hok := x.2.2
    have k0 : W.heap[w.heap.size]? = some (.cells (keyV key).toArray 32 (0, 0)) := (hB.block _ (by omega)).trans HF.out.k0
    have hkr : W.rangeAt w.heap.size 0 (keyV key) := fun j v hj => by rw [Nat.zero_add, cell_of_row W _ j _ 32 (0, 0) k0]; simpa using hj
    have hbr : W.rangeAt Bx 0 x.1.2.vals := fun j v hj => by rw [Nat.zero_add, cell_of_row W _ j _ 62 (0, 0) hbx]; simpa using hj
    have hbk : W.rangeAt Bx 0 (keyV x.1.2.key) := fun j v hj => hbr j v (by unfold keyV at hj; rw [Ob.vals, List.getElem?_append_left (List.getElem?_eq_some_iff.1 hj).1]; exact hj)
    have heq : (Op.equalIn 10000 32 (.agg (keyV x.1.2.key).toArray) (.agg (keyV key).toArray)).run Tryz.prog W = .ok (x.1.2.key == key) W := equalIn_bytes 32 32 9998 Tryz.underlying32 x.1.2.key key hok.len hk W
    by_cases he : x.1.2.key = key
    · rw [show (x.1.2.key == key) = true by simp [he]] at heq
      have HE := Lib.hid he
      clear he
      gi_wp2_with (with_reducible (show wpListIn _ _ _ _ _ (Oper.mk (some 14) (.load 32 (.tmp 13)) _ _ _ _ :: _) _ _); refine still ?_)
      refine inL_load (ro := some l) rfl 32 (.tmp 13) rfl Bx 0 rfl (keyV x.1.2.key) _ hbk Tryz.underlying32 rfl (info32k hok.len) ?_
      gi_wp2_with (with_reducible (show wpListIn _ _ _ _ _ (Oper.mk (some 15) (.load 32 (.tmp 3)) _ _ _ _ :: _) _ _); refine still ?_)
      refine inL_load (ro := some l) rfl 32 (.tmp 3) rfl w.heap.size 0 rfl (keyV key) _ hkr Tryz.underlying32 rfl (info32k hk) ?_
      gi_wp2
      have r1 : W.drew.heap[w.heap.size + 1]? = some (.cells #[.int .i64 0] 3 (0, 0)) := (hB.block _ (by omega)).trans HF.out.r1
      have r2 : W.drew.heap[w.heap.size + 1 + 1]? = some (.cells z62.toArray 62 (0, 0)) := (hB.block _ (by omega)).trans HF.out.r2
      have r3 : W.drew.heap[w.heap.size + 1 + 1 + 1]? = some (.cells #[.bool false] 4 (0, 0)) := (hB.block _ (by omega)).trans HF.out.r3
      have hbrd : W.drew.rangeAt Bx 0 x.1.2.vals := hbr
      have c1 : W.drew.cell? ⟨w.heap.size + 1, 0, none⟩ = some (.int .i64 0) := cell_of_row _ _ 0 _ 3 (0, 0) r1
      have f1 : W.drew.frozen? ⟨w.heap.size + 1, 0, none⟩ = false := frozen_of_row _ _ 0 _ 3 r1
      obtain ⟨W1, hW1⟩ : ∃ W1, W.drew.setCell ⟨w.heap.size + 1, 0, none⟩ (.int .i64 (x.1.1 : Int)) = W1 := ⟨_, rfl⟩
      have t1 : Turn (fun q => q = w.heap.size + 1) W.drew W1 := by rw [← hW1]; exact Turn.setCell (S := fun q => q = w.heap.size + 1) (Turn.refl _ _) (p := ⟨w.heap.size + 1, 0, none⟩) (fun _ => rfl) _
      have g1 : W1.cell? ⟨w.heap.size + 1, 0, none⟩ = some (.int .i64 (x.1.1 : Int)) := by rw [← hW1]; exact World.cell?_setCell_same' _ _ _ (by rw [c1]; rfl)
      have hszW := hB.size
      have r2' : W1.heap[w.heap.size + 1 + 1]? = some (.cells z62.toArray 62 (0, 0)) := (t1.block _ (by show w.heap.size + 1 + 1 < W.heap.size; omega) (by omega)).trans r2
      have hb1 : W1.rangeAt Bx 0 x.1.2.vals := rangeAt_turn hbrd t1 (by omega)
      obtain ⟨W2, hW2⟩ : ∃ W2, W1.setCells (w.heap.size + 1 + 1) 0 x.1.2.vals = W2 := ⟨_, rfl⟩
      have t2 : Turn (fun q => q = w.heap.size + 1 + 1) W1 W2 := by rw [← hW2]; exact turn_setCells _ _ _ _
      have th2 : W1.there (w.heap.size + 1 + 1) 0 x.1.2.vals.length := by have := there_row r2'; rw [hok.vlen]; exact this
      have g2 : W2.rangeAt (w.heap.size + 1 + 1) 0 x.1.2.vals := by rw [← hW2]; exact World.rangeAt_setCells_same W1 _ 0 x.1.2.vals th2
      have r3' : W2.heap[w.heap.size + 1 + 1 + 1]? = some (.cells #[.bool false] 4 (0, 0)) := (t2.block _ (by have := t1.size; have h9 : W.drew.heap.size = W.heap.size := rfl; omega) (by omega)).trans ((t1.block _ (by show w.heap.size + 1 + 1 + 1 < W.heap.size; omega) (by omega)).trans r3)
      have hb2 : W2.rangeAt Bx 0 x.1.2.vals := rangeAt_turn hb1 t2 (by omega)
      have c3 : W2.cell? ⟨w.heap.size + 1 + 1 + 1, 0, none⟩ = some (.bool false) := cell_of_row _ _ 0 _ 4 (0, 0) r3'
      have f3 : W2.frozen? ⟨w.heap.size + 1 + 1 + 1, 0, none⟩ = false := frozen_of_row _ _ 0 _ 4 r3'
      obtain ⟨W3, hW3⟩ : ∃ W3, W2.setCell ⟨w.heap.size + 1 + 1 + 1, 0, none⟩ (.bool true) = W3 := ⟨_, rfl⟩
      have t3 : Turn (fun q => q = w.heap.size + 1 + 1 + 1) W2 W3 := by rw [← hW3]; exact Turn.setCell (S := fun q => q = w.heap.size + 1 + 1 + 1) (Turn.refl _ _) (p := ⟨w.heap.size + 1 + 1 + 1, 0, none⟩) (fun _ => rfl) _
      have g3 : W3.cell? ⟨w.heap.size + 1 + 1 + 1, 0, none⟩ = some (.bool true) := by rw [← hW3]; exact World.cell?_setCell_same' _ _ _ (by rw [c3]; rfl)
      have hb3 : W3.rangeAt Bx 0 x.1.2.vals := rangeAt_turn hb2 t3 (by omega)
      have g1' : W3.cell? ⟨w.heap.size + 1, 0, none⟩ = some (.int .i64 (x.1.1 : Int)) := by
        rw [← hW3, World.cell?_setCell_far _ _ _ _ (by show w.heap.size + 1 + 1 + 1 ≠ w.heap.size + 1; omega)]
        exact (t2.cell (p := ⟨w.heap.size + 1, 0, none⟩) (World.block_lt_of_cell? _ _ g1) (by show ¬ (w.heap.size + 1 = w.heap.size + 1 + 1); omega)).trans g1
      have g2' : W3.rangeAt (w.heap.size + 1 + 1) 0 x.1.2.vals := rangeAt_turn g2 t3 (by omega)
      have HT := Lib.hid (show Turn (fun q => w.heap.size ≤ q) W.drew W3 from ((t1.mono (fun q _ h => by omega)).trans (t2.mono (T := fun q => w.heap.size ≤ q) (fun q _ h => by omega)) (fun _ _ h => h)).trans (t3.mono (T := fun q => w.heap.size ≤ q) (fun q _ h => by omega)) (fun _ _ h => h))
      have HK := Lib.hid (show KeepsOthers W W3 from by rw [← hW3, ← hW2, ← hW1]; exact (((KeepsOthers.drew W).trans (KeepsOthers.setCell _ _ _)).trans (keeps_setCells _ _ _ _)).trans (KeepsOthers.setCell _ _ _))
      have HG := Lib.hid (And.intro g1' (And.intro g2' g3))
      clear t1 t2 t3 g1 g2 g3 g1' g2' r1 r2 r3 r2' r3' hbk heq hkr k0 hbx
      refine region_round_held (S := fun wq => wq.rangeAt Bx 0 x.1.2.vals) (by kernel_rfl) (by kernel_rfl) (fun _ _ h => h) hbrd (fun hHeld => ?_)
      refine wpAnyH_take (i := 0) (v := .int .i64 (x.1.1 : Int)) rfl (by kernel_rfl) (by kernel_rfl) (by kernel_rfl) (fun _ _ _ h => h) (Or.inl ⟨by rfl, ?yp0⟩) (by assumption) ?rp0
      case yp0 => (intro wq hSw; (try simp only [zq1, zq2, zq3]); go_simp; (try with_reducible rfl); all_goals (try omega))
      case rp0 =>
      try simp only [Act.put, zq4, zq5, zq6, zq1, zq2, zq3]
      refine wpAnyH_take (i := 1) (v := .agg x.1.2.vals.toArray) rfl (by kernel_rfl) (by kernel_rfl) (by kernel_rfl) (fun _ _ _ h => h) (Or.inl ⟨by rfl, ?yp1⟩) (by assumption) ?rp1
      case yp1 => (intro wq hSw; exact exec_load_mid _ _ 62 _ rfl Bx 0 rfl x.1.2.vals _ _ hSw Tryz.underlying62 rfl (by rw [hok.vlen]; exact info62))
      case rp1 =>
      try simp only [Act.put, zq4, zq5, zq6, zq1, zq2, zq3]
      refine wpAnyH_ready (rs := [2]) (by kernel_rfl) (by simp) ?_
      refine AllReadyH.cons rfl (fun K hK => ?_) AllReadyH.nil
      go_simp
      refine hK.out _ _ hb1 (fun _ => ?_)
      clear hK K
      try simp only [Act.put, zq4, zq5, zq6, zq1, zq2, zq3]
      refine wpAnyH_ready (rs := [3]) (by kernel_rfl) (by simp) ?_
      refine AllReadyH.cons rfl (fun K hK => ?_) AllReadyH.nil
      rw [if_pos (by rfl)]
      refine wp_store_mid 62 (.tmp 5) (.tmp 18) rfl (w.heap.size + 1 + 1) 0 x.1.2.vals.toArray rfl rfl (by simpa using th2) (info62v hok) (all_oneCell_toArray x.1.2.vals_one) ?_
      rw [show W1.setCells (w.heap.size + 1 + 1) 0 x.1.2.vals.toArray.toList = W2 from hW2]
      refine hK.out _ _ hb2 (fun _ => ?_)
      clear hK K
      try simp only [Act.put, zq4, zq5, zq6, zq1, zq2, zq3]
      refine wpAnyH_ready (rs := [4]) (by kernel_rfl) (by simp) ?_
      refine AllReadyH.cons rfl (fun K hK => ?_) AllReadyH.nil
      go_simp
      refine hK.out _ _ hb3 (fun _ => ?_)
      clear hK K
      try simp only [Act.put, zq4, zq5, zq6, zq1, zq2, zq3]
      refine wpAnyH_done (by kernel_rfl) ?_ _
      clear hHeld
      gi_wp2
      exact ⟨HK.out.from _, ⟨rfl, pre, x, rfl, HE.out, HG.out.1, HG.out.2.1, HG.out.2.2⟩, ((HF.out.turn.below (Nat.le_refl _) (fun _ _ => id)).trans (hB.mono (by omega))).trans ((Turn.of_drew HT.out).below (by have := HF.out.turn.size; omega) (fun k hk h => by omega))⟩
    · rw [show (x.1.2.key == key) = false by simp [he]] at heq
      have HE := Lib.hid he
      clear he
      gi_wp2_with (with_reducible (show wpListIn _ _ _ _ _ (Oper.mk (some 14) (.load 32 (.tmp 13)) _ _ _ _ :: _) _ _); refine still ?_)
      refine inL_load (ro := some l) rfl 32 (.tmp 13) rfl Bx 0 rfl (keyV x.1.2.key) _ hbk Tryz.underlying32 rfl (info32k hok.len) ?_
      gi_wp2_with (with_reducible (show wpListIn _ _ _ _ _ (Oper.mk (some 15) (.load 32 (.tmp 3)) _ _ _ _ :: _) _ _); refine still ?_)
      refine inL_load (ro := some l) rfl 32 (.tmp 3) rfl w.heap.size 0 rfl (keyV key) _ hkr Tryz.underlying32 rfl (info32k hk) ?_
      gi_wp2
      exact ⟨KeepsFrom.refl _ _, KeepsWalks.refl _, fun y hy => by
        rcases List.mem_append.1 hy with h | h
        · exact hne y h
        · obtain rfl := List.mem_singleton.1 h; exact HE.out, hB⟩
  case done =>
    rintro D xs W hD rfl ⟨hne, hB⟩ hK
    have r1 : W.heap[w.heap.size + 1]? = some (.cells #[.int .i64 0] 3 (0, 0)) := (hB.block _ (by omega)).trans HF.out.r1
    have c1 : W.cell? ⟨w.heap.size + 1, 0, none⟩ = some (.int .i64 0) := cell_of_row _ _ 0 _ 3 (0, 0) r1
    have f1 : W.frozen? ⟨w.heap.size + 1, 0, none⟩ = false := frozen_of_row _ _ 0 _ 3 r1
    have r2 : W.heap[w.heap.size + 1 + 1]? = some (.cells z62.toArray 62 (0, 0)) := (hB.block _ (by omega)).trans HF.out.r2
    have r3 : W.heap[w.heap.size + 1 + 1 + 1]? = some (.cells #[.bool false] 4 (0, 0)) := (hB.block _ (by omega)).trans HF.out.r3
    have hszW := hB.size
    obtain ⟨W1, hW1⟩ : ∃ W1, W.setCell ⟨w.heap.size + 1, 0, none⟩ (.int .i64 0) = W1 := ⟨_, rfl⟩
    have t1 : Turn (fun q => q = w.heap.size + 1) W W1 := by rw [← hW1]; exact Turn.setCell (S := fun q => q = w.heap.size + 1) (Turn.refl _ _) (p := ⟨w.heap.size + 1, 0, none⟩) (fun _ => rfl) _
    have g1 : W1.cell? ⟨w.heap.size + 1, 0, none⟩ = some (.int .i64 0) := by rw [← hW1]; exact World.cell?_setCell_same' _ _ _ (by rw [c1]; rfl)
    have r2' : W1.heap[w.heap.size + 1 + 1]? = some (.cells z62.toArray 62 (0, 0)) := (t1.block _ (by omega) (by omega)).trans r2
    obtain ⟨W2, hW2⟩ : ∃ W2, W1.setCells (w.heap.size + 1 + 1) 0 z62 = W2 := ⟨_, rfl⟩
    have t2 : Turn (fun q => q = w.heap.size + 1 + 1) W1 W2 := by rw [← hW2]; exact turn_setCells _ _ _ _
    have th2 : W1.there (w.heap.size + 1 + 1) 0 z62.length := there_row r2'
    have g2 : W2.rangeAt (w.heap.size + 1 + 1) 0 z62 := by rw [← hW2]; exact World.rangeAt_setCells_same W1 _ 0 z62 th2
    have r3' : W2.heap[w.heap.size + 1 + 1 + 1]? = some (.cells #[.bool false] 4 (0, 0)) := (t2.block _ (by have := t1.size; omega) (by omega)).trans ((t1.block _ (by omega) (by omega)).trans r3)
    have c3 : W2.cell? ⟨w.heap.size + 1 + 1 + 1, 0, none⟩ = some (.bool false) := cell_of_row _ _ 0 _ 4 (0, 0) r3'
    have f3 : W2.frozen? ⟨w.heap.size + 1 + 1 + 1, 0, none⟩ = false := frozen_of_row _ _ 0 _ 4 r3'
    obtain ⟨W3, hW3⟩ : ∃ W3, W2.setCell ⟨w.heap.size + 1 + 1 + 1, 0, none⟩ (.bool false) = W3 := ⟨_, rfl⟩
    have t3 : Turn (fun q => q = w.heap.size + 1 + 1 + 1) W2 W3 := by rw [← hW3]; exact Turn.setCell (S := fun q => q = w.heap.size + 1 + 1 + 1) (Turn.refl _ _) (p := ⟨w.heap.size + 1 + 1 + 1, 0, none⟩) (fun _ => rfl) _
    have g3 : W3.cell? ⟨w.heap.size + 1 + 1 + 1, 0, none⟩ = some (.bool false) := by rw [← hW3]; exact World.cell?_setCell_same' _ _ _ (by rw [c3]; rfl)
    have g1' : W3.cell? ⟨w.heap.size + 1, 0, none⟩ = some (.int .i64 0) := by
      rw [← hW3, World.cell?_setCell_far _ _ _ _ (by show w.heap.size + 1 + 1 + 1 ≠ w.heap.size + 1; omega)]
      exact (t2.cell (p := ⟨w.heap.size + 1, 0, none⟩) (World.block_lt_of_cell? _ _ g1) (by show ¬ (w.heap.size + 1 = w.heap.size + 1 + 1); omega)).trans g1
    have g2' : W3.rangeAt (w.heap.size + 1 + 1) 0 z62 := rangeAt_turn g2 t3 (by omega)
    have HT := Lib.hid (show Turn (fun q => w.heap.size ≤ q) W W3 from ((t1.mono (fun q _ h => by omega)).trans (t2.mono (T := fun q => w.heap.size ≤ q) (fun q _ h => by omega)) (fun _ _ h => h)).trans (t3.mono (T := fun q => w.heap.size ≤ q) (fun q _ h => by omega)) (fun _ _ h => h))
    have HK := Lib.hid (show KeepsOthers W W3 from by rw [← hW3, ← hW2, ← hW1]; exact ((KeepsOthers.setCell _ _ _).trans (keeps_setCells _ _ _ _)).trans (KeepsOthers.setCell _ _ _))
    have HG := Lib.hid (And.intro g1' (And.intro g2' g3))
    have HNE := Lib.hid hne
    clear t1 t2 t3 g1 g2 g3 g1' g2' r1 r2 r3 r2' r3' hne
    gi_wp2_with (with_reducible (show wpListIn _ _ _ _ _ (Oper.mk none (.store 62 (.tmp 5) (.tmp 19)) _ _ _ _ :: _) _ _); refine still ?_)
    refine inL_store (ro := none) rfl 62 (.tmp 5) (.tmp 19) rfl (w.heap.size + 1 + 1) 0 z62.toArray rfl rfl (by simpa using th2) (info62v ob0_ok) (all_oneCell_toArray ob0.vals_one) ?_
    rw [show W1.setCells (w.heap.size + 1 + 1) 0 z62.toArray.toList = W2 from hW2]
    gi_wp2
    have hK3 := HK.out.same D _ hK rfl
    obtain ⟨k1, k2, k3⟩ := HG.out
    have hrow : ∀ r, some D = some r → ∃ o : Obj, W3.heap[r]? = some o ∧ o.isCells = false := fun r e => by cases e; exact ⟨_, hK3, rfl⟩
    have hgr := grownBy_putObj' W3 D (.deferred none)
    refine ⟨by simp, .inl ⟨_, _, rfl, run_takeDeferred hK3, ?_⟩⟩
    refine ⟨_, find_results w _ 0 z62 false (cell_kept k1 hgr hrow) (own_range k2 hgr hrow) (cell_kept k3 hgr hrow) (info62v ob0_ok) _ rfl rfl rfl, ?_, .inr ⟨fun k hk hp he => HNE.out ⟨(k, sl.getD k ob0), hk, hg.get k hk⟩ ((objsTo_mem sl hg _ 48).2 ⟨hk, rfl, hp⟩) he, rfl⟩⟩
    exact turn_of_below ((((HF.out.turn.below (Nat.le_refl _) (fun _ _ => id)).trans (hB.mono (by omega))).trans (HT.out.below (by omega) (fun k hk h => by omega))).trans (belowK_b (w := w) (Nat.le_refl _) W3 D _ _ (by omega) hK3 rfl rfl))
  case stop =>
    rintro D c pre W hD ⟨k, hk48, rfl⟩ ⟨⟨rfl, ini, last, e1, e2, e3, e4, e5⟩, hB⟩ hK
    gi_wp2
    have hrow : ∀ r, some D = some r → ∃ o : Obj, W.heap[r]? = some o ∧ o.isCells = false := fun r e => by cases e; exact ⟨_, hK, rfl⟩
    have hgr := grownBy_putObj' W D (.deferred none)
    have hl : last ∈ objsTo sl hg k := by rw [e1]; simp
    obtain ⟨m1, m2, m3⟩ := (objsTo_mem sl hg last k).1 hl
    have hok := last.2.2
    refine ⟨by simp, .inl ⟨_, _, rfl, run_takeDeferred hK, ?_⟩⟩
    refine ⟨_, find_results w _ (last.1.1 : Int) last.1.2.vals true (cell_kept e3 hgr hrow) (own_range e4 hgr hrow) (cell_kept e5 hgr hrow) (info62v hok) _ rfl rfl rfl, ?_, .inl ⟨last.1.1, by omega, by rw [← m2]; exact m3, by rw [← m2]; exact e2, by rw [← m2]⟩⟩
    exact turn_of_below (hB.trans (belowK_b (w := w) (Nat.le_refl _) W D _ _ (by have := HF.out.turn.size; omega) hK rfl rfl))
theorem ofind_any (S J M : Nat) (sl : List Ob) (key : List Int) (hk : key.length = 32) (w : World) (hs : ShAt w S J M sl) :
    Calls Tryz.prog 26 #[.pointer (some ⟨S, 0, none⟩), .agg (keyV key).toArray] w (FindPost w sl key) := callsIn_wide.1 (find_in 3 (Nat.le_refl _) S J M sl key hk w hs)
end Go.Proofs.YtboofamenpcnhaaGreatDoor
namespace Go.Proofs.YtboofamenpcnhaaGreatDoor
set_option maxRecDepth 100000
open Go.RowKit
set_option linter.unusedVariables false
set_option linter.unusedSimpArgs false
def secN (z : Nat) : Nat := (z + 63) / 64
theorem sectorsOf_any (z : Nat) (hz : z ≤ 1000000) (w : World) : Calls Tryz.prog 31 #[.int .i64 (z : Int)] w fun e w' => e = .returned (.int .i64 ((secN z : Nat) : Int)) ∧ w' = w := by
  have h1 : IntKind.i64.wrap ((z : Int) + 64) = (z : Int) + 64 := by rw [IntKind.wrap_i64]; omega
  have h2 : IntKind.i64.wrap ((z : Int) + 64 - 1) = (z : Int) + 63 := by rw [IntKind.wrap_i64]; omega
  have h3 : ((z : Int) + 64 - 1).tdiv 64 = ((secN z : Nat) : Int) := by rw [Int.tdiv_eq_ediv_of_nonneg (by omega)]; unfold secN; omega
  have h4 : ((z : Int) + 63).tdiv 64 = ((secN z : Nat) : Int) := by rw [Int.tdiv_eq_ediv_of_nonneg (by omega)]; unfold secN; omega
  have h5 : secN z ≤ 1000000 := by unfold secN; omega
  go_enter Tryz.func31, Tryz.ntmps31
  go_wp2_with fail
  go_ret
  exact ⟨by first | rfl | go_num | (congr 2; go_num), rfl⟩
theorem place_any (o : Ob) (ho : o.Ok) (w : World) : Calls Tryz.prog 41 #[.agg o.vals.toArray] w fun e w' => e = .returned (.int .i64 (o.first - 60)) ∧ Turn (fun _ => False) w w' := by
  have hb := box_alloc w 62 o.vals
  have c32 := hb.cell 32 (.int .i64 o.first) (by rw [Ob.vals, List.getElem?_append_right (by simp [ho.len])]; simp [ho.len])
  have hf := ho.first
  go_enter Tryz.func41, Tryz.ntmps41
  go_wp2_with fail
  go_ret
  exact ⟨by go_num, hb.turn⟩
theorem sectors_ob (o : Ob) (ho : o.Ok) (w : World) : Calls Tryz.prog 42 #[.agg o.vals.toArray] w fun e w' => e = .returned (.int .i64 ((secN o.size.toNat : Nat) : Int)) ∧ Turn (fun _ => False) w w' := by
  have hb := box_alloc w 62 o.vals
  have c33 := hb.cell 33 (.int .i64 o.size) (by rw [Ob.vals, List.getElem?_append_right (by simp [ho.len])]; simp [ho.len])
  have hf := ho.size
  obtain ⟨z, hz⟩ := Int.eq_ofNat_of_zero_le hf.1
  rw [hz] at c33 ⊢
  rw [Int.toNat_natCast]
  have hz9 : z ≤ 1000000 := by omega
  clear hz
  go_enter Tryz.func42, Tryz.ntmps42
  go_wp2_with fail
  refine (sectorsOf_any z hz9 _).mono ?_
  rintro e w1 ⟨rfl, rfl⟩
  go_wp2_with fail
  go_ret
  exact ⟨rfl, hb.turn⟩
theorem exec_eql_ob (ev : Operand → Value) (op : Oper) {x y : Operand} (ho : op.op = .binOp .eql 62 x y 62) (o1 o2 : Ob) (w : World) (hx : ev x = .agg o1.vals.toArray) (hy : ev y = .agg o2.vals.toArray) (h1 : o1.Ok) (h2 : o2.Ok) :
    (execOp ev op).run Tryz.prog w = .ok (.value (.bool (decide (o1 = o2)))) w := by
  have := run_eql_ob o1 o2 h1 h2 w
  have hg : (eqGuard .eql 62 x y (.agg o1.vals.toArray) (.agg o2.vals.toArray)).run Tryz.prog w = .ok () w := by simp [eqGuard]
  unfold execOp
  simp only [ho, hx, hy, Sem.run_bind, this, hg, Result.andThen_ok, Sem.run_pure]
/-- Is there one? -/
def HasP (sl : List Ob) (key : List Int) : Prop := ∃ k, k < 48 ∧ 0 < (sl.getD k ob0).size ∧ (sl.getD k ob0).key = key
set_option maxHeartbeats 1600000 in
theorem has_sh (S J M : Nat) (sl : List Ob) (key : List Int) (hk : key.length = 32) (w : World) (hs : ShAt w S J M sl) :
    Calls Tryz.prog 10 #[.pointer (some ⟨S, 0, none⟩), .agg (keyV key).toArray] w fun e w' => Turn (fun _ => False) w w' ∧ ((HasP sl key ∧ e = .returned (.bool true)) ∨ (¬ HasP sl key ∧ e = .returned (.bool false))) := by
  have hb := box_alloc w 32 (keyV key)
  have hr := hb.range
  have hz := zero62
  obtain ⟨w1, hw1⟩ : ∃ w1, w.alloc (.cells (keyV key).toArray 32) = w1 := ⟨_, rfl⟩
  rw [hw1] at hb hr
  have HS := Lib.hid (hs.turn hb.turn id)
  clear hs
  go_enter Tryz.func10, Tryz.ntmps10
  go_wp2_with (with_reducible (show wpList _ _ _ (Oper.mk (some 10) (.load 32 (.tmp 3)) _ _ _ _ :: _) _ _); refine wpList_load_mid rfl 32 (.tmp 3) rfl w.heap.size 0 rfl (keyV key) _ hr Tryz.underlying32 rfl (info32k hk) ?_)
  refine (ofind_any S J M sl key hk w1 HS.out).mono ?_
  rintro e w2 ⟨t2, ⟨k, h1, h2, h3, rfl⟩ | ⟨h1, rfl⟩⟩
  · have hok := HS.out.sgood.get k h1
    have HP := Lib.hid (show HasP sl key from ⟨k, h1, h2, h3⟩)
    have HT := Lib.hid (hb.turn.trans t2 (fun _ _ => id))
    clear h2 h3 t2 HS
    generalize sl.getD k ob0 = ob at hok ⊢
    go_wp2_with (with_reducible (show wpList _ _ _ (Oper.mk none (.store 62 (.tmp 6) (.tmp 13)) _ _ _ _ :: _) _ _); refine still ?_)
    refine list_box w2 62 z62 ob.vals (by rw [hok.vlen]; rfl) ob.vals_one (by rw [hok.vlen]; exact info62) rfl (.tmp 6) (.tmp 13) rfl rfl rfl ?_
    intro w3 hB3
    go_wp2_with fail
    go_ret
    exact ⟨HT.out.trans hB3.turn (fun _ _ => id), .inl ⟨HP.out, rfl⟩⟩
  · have HT := Lib.hid (hb.turn.trans t2 (fun _ _ => id))
    have HP := Lib.hid (show ¬ HasP sl key from fun ⟨k, a1, a2, a3⟩ => h1 k a1 a2 a3)
    clear t2 h1 HS
    go_wp2_with (with_reducible (show wpList _ _ _ (Oper.mk none (.store 62 (.tmp 6) (.tmp 13)) _ _ _ _ :: _) _ _); refine still ?_)
    refine list_box w2 62 z62 z62 rfl ob0.vals_one info62 rfl (.tmp 6) (.tmp 13) rfl rfl rfl ?_
    intro w3 hB3
    go_wp2_with fail
    go_ret
    exact ⟨HT.out.trans hB3.turn (fun _ _ => id), .inr ⟨HP.out, rfl⟩⟩
end Go.Proofs.YtboofamenpcnhaaGreatDoor
namespace Go.Proofs.YtboofamenpcnhaaGreatDoor
set_option maxRecDepth 100000
open Go.RowKit Go.Shelf
set_option linter.unusedVariables false
set_option linter.unusedSimpArgs false
attribute [local go_sem] Oper.semAt_some
theorem chunk_any (a : Option Addr) (l c : Nat) (w : World) : Calls Tryz.prog 62 #[.slice a l c, .int .i64 64] w fun e w' => e = .returned (.func (.func 83) #[] #[.pointer (some ⟨w.heap.size, 0, none⟩), .pointer (some ⟨w.heap.size + 1, 0, none⟩)]) ∧ w' = (w.alloc (.cells #[.slice a l c] 29)).alloc (.cells #[.int .i64 64] 3) := by
  go_enter Tryz.func62, Tryz.ntmps62
  go_wp2_with fail
  go_ret
  exact ⟨rfl, rfl⟩
/-- The k-th piece. -/
def chV (g o L k : Nat) : Value := .slice (some ⟨g, o + 64 * k, none⟩) (min 64 (L - 64 * k)) (min 64 (L - 64 * k))
abbrev CX (L : Nat) := { k : Nat // 64 * k < L }
def chTo (L : Nat) : Nat → List (CX L)
  | 0 => []
  | k + 1 => if h : 64 * k < L then chTo L k ++ [⟨k, h⟩] else chTo L k
theorem chTo_len (L : Nat) : ∀ k, 64 * k < L + 64 → (chTo L k).length = k
  | 0, _ => rfl
  | k + 1, h => by
    unfold chTo
    rw [dif_pos (by omega), List.length_append, chTo_len L k (by omega)]
    rfl
def KB (b1 b2 : Nat) (W W' : World) : Prop := W'.heap[b1]? = W.heap[b1]? ∧ W'.heap[b2]? = W.heap[b2]? ∧ W.heap.size ≤ W'.heap.size
set_option maxHeartbeats 4000000 in
theorem chunk1_in (n l b1 b2 g o L c : Nat) (hL : L ≤ 100000) (hc : L ≤ c) (hc9 : c ≤ 9223372036854775807) (Jp Jx : List (CX L) → World → Prop) (W : World)
    (hY : ∀ pre x W1, Jp pre W1 → pre.length < secN L → YieldAt (FW none) (n - 1) Tryz.prog l #[chV g o L x.1] W1 fun e W' => (e = .returned (.bool true) ∧ Jp (pre ++ [x]) W' ∧ KB b1 b2 W1 W') ∨ (e = .returned (.bool false) ∧ Jx (pre ++ [x]) W'))
    (hJ : AbidesFrom W.heap.size Jp) (h1 : W.heap[b1]? = some (.cells #[.slice (some ⟨g, o, none⟩) L c] 29 (0, 0))) (h2 : W.heap[b2]? = some (.cells #[.int .i64 64] 3 (0, 0))) (h0 : Jp [] W) :
    CallsIn (FW none) n Tryz.prog 83 #[.func (.yield l) #[] #[], .pointer (some ⟨b1, 0, none⟩), .pointer (some ⟨b2, 0, none⟩)] W fun e W' => (∃ v, e = .returned v) ∧ ((∃ xs, xs = chTo L (secN L) ∧ Jp xs W') ∨ (∃ pre, True ∧ Jx pre W')) := by
  have HY := Lib.hid hY
  have HJ := Lib.hid hJ
  clear hY hJ
  refine callsIn_of_wp Tryz.func83 rfl trivial ?_ rfl
  simp only [Tryz.ntmps83, List.size_toArray, List.length_cons, List.length_nil, Nat.reduceAdd, Nat.reduceSub, Array.replicate_succ, Array.replicate_zero, List.push_toArray, List.append_toArray, List.nil_append, List.cons_append]
  gi_wp2
  gi_loopw [4] (fun i wr => ∃ k : Nat, 64 * k < L + 64 ∧ i = .int .i64 ((64 * k : Nat) : Int) ∧ Jp (chTo L k) wr ∧ wr.heap[b1]? = some (.cells #[.slice (some ⟨g, o, none⟩) L c] 29 (0, 0)) ∧ wr.heap[b2]? = some (.cells #[.int .i64 64] 3 (0, 0))) (fun i _ => (L + 64) - (intOf i).toNat)
  case atStart => exact ⟨0, by omega, rfl, h0, h1, h2⟩
  case round =>
    clear h0 h1 h2
    obtain ⟨k, hk, rfl, hJs, r1, r2⟩ := hrel
    have HJS := Lib.hid hJs
    have HR1 := Lib.hid r1
    have HR2 := Lib.hid r2
    have c1 : wr.cell? ⟨b1, 0, none⟩ = some (.slice (some ⟨g, o, none⟩) L c) := cell_of_row _ _ 0 _ 29 (0, 0) r1
    have c2 : wr.cell? ⟨b2, 0, none⟩ = some (.int .i64 64) := cell_of_row _ _ 0 _ 3 (0, 0) r2
    clear hJs r1 r2
    obtain ⟨a, ha⟩ : ∃ a, 64 * k = a := ⟨_, rfl⟩
    have HA := Lib.hid ha
    rw [ha] at hk ⊢
    by_cases hlt : a < L
    · have hd : decide ((a : Int) < (L : Int)) = true := by simp; omega
      obtain ⟨m, hm⟩ : ∃ m, min 64 (L - a) = m := ⟨_, rfl⟩
      have hm1 : m ≤ 64 ∧ 0 < m ∧ a + m ≤ L := by omega
      have hchv : chV g o L k = .slice (some ⟨g, o + a, none⟩) m m := by unfold chV; rw [ha, hm]
      have hmin : min (64 : Int) ((L : Int) - (a : Int)) = (m : Int) := by omega
      have hmin2 : min 64 (((L - a : Nat) : Int)) = (m : Int) := by omega
      have HM := Lib.hid hm
      have haL : a ≤ L := by omega
      have hca : ¬ (c = a) := by omega
      clear ha hm
      gi_wp2
      refine (wpIn_wide (n := n)).2 ?_
      refine wp_region_held_drew (S := fun wq => wq.cell? ⟨b1, 0, none⟩ = some (.slice (some ⟨g, o, none⟩) L c) ∧ wq.cell? ⟨b2, 0, none⟩ = some (.int .i64 64)) (by kernel_rfl) ⟨c1, c2⟩ (fun hHeld => ?_)
      refine wpAnyH_take (i := 0) (v := .int .i64 64) rfl (by kernel_rfl) (by kernel_rfl) (by kernel_rfl) (fun _ _ _ h => h) (Or.inl ⟨by rfl, ?yq1⟩) (by assumption) ?rq1
      case yq1 => (intro wq hSw; obtain ⟨z1, z2⟩ := hSw; (try simp only [zq1, zq2, zq3]); go_simp; (try with_reducible rfl); all_goals (try omega))
      case rq1 =>
      try simp only [Act.put, zq4, zq5, zq6, zq1, zq2, zq3]
      refine wpAnyH_take (i := 1) (v := .slice (some ⟨g, o, none⟩) L c) rfl (by kernel_rfl) (by kernel_rfl) (by kernel_rfl) (fun _ _ _ h => h) (Or.inl ⟨by rfl, ?yq2⟩) (by assumption) ?rq2
      case yq2 => (intro wq hSw; obtain ⟨z1, z2⟩ := hSw; (try simp only [zq1, zq2, zq3]); go_simp; (try with_reducible rfl); all_goals (try omega))
      case rq2 =>
      try simp only [Act.put, zq4, zq5, zq6, zq1, zq2, zq3]
      refine wpAnyH_take (i := 2) (v := .int .i64 (a : Int)) rfl (by kernel_rfl) (by kernel_rfl) (by kernel_rfl) (fun _ _ _ h => h) (Or.inl ⟨by rfl, ?yq3⟩) (by assumption) ?rq3
      case yq3 => (intro wq hSw; (try simp only [zq1, zq2, zq3]); go_simp; (try with_reducible rfl); all_goals (try omega))
      case rq3 =>
      try simp only [Act.put, zq4, zq5, zq6, zq1, zq2, zq3]
      refine wpAnyH_take (i := 3) (v := .slice (some ⟨g, o + a, none⟩) (L - a) (c - a)) rfl (by kernel_rfl) (by kernel_rfl) (by kernel_rfl) (fun _ _ _ h => h) (Or.inl ⟨by rfl, ?yq4⟩) (by assumption) ?rq4
      case yq4 => (intro wq hSw; (try simp only [zq1, zq2, zq3]); go_simp; (try with_reducible rfl); all_goals (try omega))
      case rq4 =>
      try simp only [Act.put, zq4, zq5, zq6, zq1, zq2, zq3]
      refine wpAnyH_take (i := 4) (v := .int .i64 ((L - a : Nat) : Int)) rfl (by kernel_rfl) (by kernel_rfl) (by kernel_rfl) (fun _ _ _ h => h) (Or.inl ⟨by rfl, ?yq5⟩) (by assumption) ?rq5
      case yq5 => (intro wq hSw; (try simp only [zq1, zq2, zq3]); go_simp; (try with_reducible rfl); all_goals (try omega))
      case rq5 =>
      try simp only [Act.put, zq4, zq5, zq6, zq1, zq2, zq3]
      refine wpAnyH_take (i := 5) (v := .int .i64 (m : Int)) rfl (by kernel_rfl) (by kernel_rfl) (by kernel_rfl) (fun _ _ _ h => h) (Or.inl ⟨by rfl, ?yq6⟩) (by assumption) ?rq6
      case yq6 => (intro wq hSw; (try simp only [zq1, zq2, zq3]); go_simp; (try with_reducible rfl); all_goals (try omega))
      case rq6 =>
      try simp only [Act.put, zq4, zq5, zq6, zq1, zq2, zq3]
      refine wpAnyH_take (i := 6) (v := .int .i64 (m : Int)) rfl (by kernel_rfl) (by kernel_rfl) (by kernel_rfl) (fun _ _ _ h => h) (Or.inl ⟨by rfl, ?yq7⟩) (by assumption) ?rq7
      case yq7 => (intro wq hSw; (try simp only [zq1, zq2, zq3]); go_simp; (try with_reducible rfl); all_goals (try omega))
      case rq7 =>
      try simp only [Act.put, zq4, zq5, zq6, zq1, zq2, zq3]
      refine wpAnyH_done (by kernel_rfl) ?_ _
      clear hHeld
      have c1d : wr.drew.cell? ⟨b1, 0, none⟩ = some (.slice (some ⟨g, o, none⟩) L c) := c1
      have c2d : wr.drew.cell? ⟨b2, 0, none⟩ = some (.int .i64 64) := c2
      obtain ⟨wd, hwd⟩ : ∃ wd, wr.drew = wd := ⟨_, rfl⟩
      have gr : wr.grownBy wd none := by rw [← hwd]; exact grown_of_turn ((Turn.refl _ wr).drew)
      have HR1d := Lib.hid (show wd.heap[b1]? = some (.cells #[.slice (some ⟨g, o, none⟩) L c] 29 (0, 0)) by rw [← hwd]; exact HR1.out)
      have HR2d := Lib.hid (show wd.heap[b2]? = some (.cells #[.int .i64 64] 3 (0, 0)) by rw [← hwd]; exact HR2.out)
      rw [hwd] at c1d c2d ⊢
      obtain ⟨fn, tmps, assign, body, hy, hR⟩ := HY.out _ ⟨k, by have := HA.out; omega⟩ wd (HJ.out _ _ _ none HJS.out gr (fun r e => by cases e)) (by rw [chTo_len L k (by have := HA.out; omega)]; unfold secN; have := HA.out; omega)
      dsimp only at hy
      rw [hchv] at hy
      clear hwd c1 c2
      gi_wp2
      refine ⟨(by intro h; cases h), hR.mono ?_⟩
      rintro e W3 (⟨rfl, hJ3, hk1, hk2, hk3⟩ | ⟨rfl, hJx3⟩)
      · have HJ3 := Lib.hid hJ3
        have HR1e := Lib.hid (hk1.trans HR1d.out)
        have HR2e := Lib.hid (hk2.trans HR2d.out)
        have c2e : W3.cell? ⟨b2, 0, none⟩ = some (.int .i64 64) := cell_of_row _ _ 0 _ 3 (0, 0) HR2e.out
        clear hJ3 hk1 hk2 hk3
        gi_wp2
        go_roundw
        case rel => exact ⟨k + 1, by have := HA.out; omega, by have := HA.out; go_num, by show Jp (if h : 64 * k < L then _ else _) _; rw [dif_pos (by have := HA.out; omega)]; exact HJ3.out, HR1e.out, HR2e.out⟩
        case measure => simp [intOf]; omega
      · have HJ3 := Lib.hid hJx3
        clear hJx3
        gi_wp2
        refine bodyPost_ret (results_none rfl _ _ _) rfl ?_
        exact ⟨⟨_, rfl⟩, .inr ⟨_, trivial, HJ3.out⟩⟩
    · have hd : decide ((a : Int) < (L : Int)) = false := by simp; omega
      have hks : k = secN L := by have := HA.out; unfold secN; omega
      subst hks
      gi_wp2
      go_end0
      exact ⟨⟨_, rfl⟩, .inl ⟨_, rfl, HJS.out⟩⟩
theorem kb_t {b1 b2 : Nat} {A B C : World} (h : KB b1 b2 A B) (k : KB b1 b2 B C) : KB b1 b2 A C := ⟨k.1.trans h.1, k.2.1.trans h.2.1, Nat.le_trans h.2.2 k.2.2⟩
theorem kb_b {b1 b2 : Nat} {w : World} (h1 : b1 < w.heap.size) (h2 : b2 < w.heap.size) (W : World) (l : Nat) (o o' : Obj) (hl : w.heap.size ≤ l) (h : W.heap[l]? = some o) (_ : o.isCells = false) (_ : o.isWalk = false) : KB b1 b2 W (W.putObj l o') := by
  have hg := grownBy_putObj' W l o'
  have hlt := (Array.getElem?_eq_some_iff.1 h).1
  exact ⟨hg.block b1 (by omega) (by intro e; cases e; omega), hg.block b2 (by omega) (by intro e; cases e; omega), hg.size⟩
/-- The pieces, as the law of a range over a function asks for them. -/
theorem chunk_stops (n b1 b2 g o L c : Nat) (hL : L ≤ 100000) (hc : L ≤ c) (hc9 : c ≤ 9223372036854775807) (w : World) (h1 : w.heap[b1]? = some (.cells #[.slice (some ⟨g, o, none⟩) L c] 29 (0, 0))) (h2 : w.heap[b2]? = some (.cells #[.int .i64 64] 3 (0, 0))) :
    SeqStopsK (FW none) n Tryz.prog 83 #[.pointer (some ⟨b1, 0, none⟩), .pointer (some ⟨b2, 0, none⟩)] (fun x : CX L => #[chV g o L x.1]) (KB b1 b2) (fun xs => xs = chTo L (secN L)) (fun _ => True) (secN L) w := fun l Jp Jx W hW hJ hJx hY h0 =>
  chunk1_in n l b1 b2 g o L c hL hc hc9 Jp Jx W hY hJ ((hW.block b1 (Array.getElem?_eq_some_iff.1 h1).1).trans h1) ((hW.block b2 (Array.getElem?_eq_some_iff.1 h2).1).trans h2) h0
end Go.Proofs.YtboofamenpcnhaaGreatDoor
namespace Go.Proofs.YtboofamenpcnhaaGreatDoor
set_option maxRecDepth 100000
open Go.RowKit
set_option linter.unusedVariables false
set_option linter.unusedSimpArgs false
def IdxPost (w : World) (sl : List Ob) (e : Ending) (w' : World) : Prop :=
  Turn (fun _ => False) w w' ∧ ((∃ k, k < 48 ∧ sl.getD k ob0 = ob0 ∧ (∀ j, j < k → sl.getD j ob0 ≠ ob0) ∧ e = .returned (.int .i64 (k : Int))) ∨ ((∀ j, j < 48 → sl.getD j ob0 ≠ ob0) ∧ e = .returned (.int .i64 (-1))))
set_option maxHeartbeats 1600000 in
theorem index_any (w : World) (S J M : Nat) (sl : List Ob) (hs : ShAt w S J M sl) : Calls Tryz.prog 29 #[.slice (some ⟨S, 1, none⟩) 48 48, .agg z62.toArray] w (IdxPost w sl) := by
  have hb := box_alloc w 62 z62
  obtain ⟨w1, hw1⟩ : ∃ w1, w.alloc (.cells z62.toArray 62) = w1 := ⟨_, rfl⟩
  rw [hw1] at hb
  have HB := Lib.hid hb
  have HS := Lib.hid (hs.turn hb.turn id)
  clear hs hb
  go_enter Tryz.func29, Tryz.ntmps29
  go_wp2_with fail
  clear hw1
  go_loopw [8] (fun iv wr => ∃ k : Nat, k ≤ 48 ∧ iv = .int .i64 (k : Int) ∧ (∀ j, j < k → sl.getD j ob0 ≠ ob0) ∧ Turn (fun _ => False) w1 wr) (fun iv _ => 48 - (intOf iv).toNat)
  case atStart => exact ⟨0, Nat.zero_le _, rfl, fun j hj => by omega, Turn.refl _ _⟩
  case round =>
    obtain ⟨k, hk, rfl, hne, tr⟩ := hrel
    have HNE := Lib.hid hne
    have HT := Lib.hid (HB.out.turn.trans tr (fun _ _ => id))
    have HTR := Lib.hid tr
    clear hne tr
    by_cases hlt : k < 48
    · have hsr := HS.out.turn HTR.out id
      have hok := hsr.sgood.get k hlt
      have hs1 := hsr.slot k hlt
      have hb1 : wr.rangeAt w.heap.size 0 z62 := fun j v hj => by rw [Nat.zero_add, cell_of_row wr _ j _ 62 (0, 0) (HB.out.later HTR.out)]; simpa using hj
      have hd1 : decide ((k : Int) < 48) = true := by simp; omega
      have gi : (0 : Int) ≤ (k : Int) ∧ (k : Int) < 48 := by omega
      have heq := fun wq => run_eql_ob ob0 (sl.getD k ob0) ob0_ok hok wq
      clear hsr
      go_wp2_with fail
      refine wp_region_held_drew (S := fun wq => wq.rangeAt w.heap.size 0 z62 ∧ wq.rangeAt S (1 + k * 34) (sl.getD k ob0).vals) (by kernel_rfl) ⟨hb1, hs1⟩ (fun hHeld => ?_)
      refine wpAnyH_take (i := 0) (v := .agg z62.toArray) rfl (by kernel_rfl) (by kernel_rfl) (by kernel_rfl) (fun _ _ _ h => h) (Or.inl ⟨by rfl, ?yp0⟩) (by assumption) ?rp0
      case yp0 => (intro wq hSw; exact exec_load_mid _ _ 62 _ rfl w.heap.size 0 rfl z62 _ _ hSw.1 Tryz.underlying62 rfl info62)
      case rp0 =>
      try simp only [Act.put, zq4, zq5, zq6, zq1, zq2, zq3]
      refine wpAnyH_take (i := 1) (v := .slice (some ⟨S, 1, none⟩) 48 48) rfl (by kernel_rfl) (by kernel_rfl) (by kernel_rfl) (fun _ _ _ h => h) (Or.inl ⟨by rfl, ?yp1⟩) (by assumption) ?rp1
      case yp1 => (intro wq hSw; (try simp only [zq1, zq2, zq3]); go_simp; (try with_reducible rfl); all_goals (try omega))
      case rp1 =>
      try simp only [Act.put, zq4, zq5, zq6, zq1, zq2, zq3]
      refine wpAnyH_take (i := 2) (v := .int .i64 (k : Int)) rfl (by kernel_rfl) (by kernel_rfl) (by kernel_rfl) (fun _ _ _ h => h) (Or.inl ⟨by rfl, ?yp2⟩) (by assumption) ?rp2
      case yp2 => (intro wq hSw; (try simp only [zq1, zq2, zq3]); go_simp; (try with_reducible rfl); all_goals (try omega))
      case rp2 =>
      try simp only [Act.put, zq4, zq5, zq6, zq1, zq2, zq3]
      refine wpAnyH_take (i := 3) (v := .pointer (some ⟨S, 1 + k * 34, none⟩)) rfl (by kernel_rfl) (by kernel_rfl) (by kernel_rfl) (fun _ _ _ h => h) (Or.inl ⟨by rfl, ?yp3⟩) (by assumption) ?rp3
      case yp3 => (intro wq hSw; (try simp only [zq1, zq2, zq3]); go_simp; (try with_reducible rfl); all_goals (try omega))
      case rp3 =>
      try simp only [Act.put, zq4, zq5, zq6, zq1, zq2, zq3]
      refine wpAnyH_take (i := 4) (v := .agg (sl.getD k ob0).vals.toArray) rfl (by kernel_rfl) (by kernel_rfl) (by kernel_rfl) (fun _ _ _ h => h) (Or.inl ⟨by rfl, ?yp4⟩) (by assumption) ?rp4
      case yp4 => (intro wq hSw; exact exec_load_mid _ _ 62 _ rfl S (1 + k * 34) rfl (sl.getD k ob0).vals _ _ hSw.2 Tryz.underlying62 rfl (by rw [hok.vlen]; exact info62))
      case rp4 =>
      try simp only [Act.put, zq4, zq5, zq6, zq1, zq2, zq3]
      refine wpAnyH_take (i := 5) (v := .bool (decide (ob0 = sl.getD k ob0))) rfl (by kernel_rfl) (by kernel_rfl) (by kernel_rfl) (fun _ _ _ h => h) (Or.inl ⟨by rfl, ?yp5⟩) (by assumption) ?rp5
      case yp5 => (intro wq hSw; exact exec_eql_ob _ _ rfl _ _ wq rfl rfl ob0_ok hok)
      case rp5 =>
      try simp only [Act.put, zq4, zq5, zq6, zq1, zq2, zq3]
      refine wpAnyH_done (by kernel_rfl) ?_ _
      clear hHeld
      by_cases he : sl.getD k ob0 = ob0
      · rw [decide_eq_true he.symm]
        have HE := Lib.hid he
        clear he
        go_wp2_with fail
        go_ret
        exact ⟨HT.out.drew, .inl ⟨k, hlt, HE.out, HNE.out, rfl⟩⟩
      · rw [decide_eq_false (fun h => he h.symm)]
        have HE := Lib.hid he
        clear he
        go_wp2_with fail
        go_roundw
        case rel => exact ⟨k + 1, by omega, by go_num, fun j hj => by
          by_cases e : j = k
          · subst e; exact HE.out
          · exact HNE.out j (by omega), HTR.out.drew⟩
        case measure => simp [intOf]; omega
    · obtain rfl : k = 48 := by omega
      go_wp2_with fail
      go_ret
      exact ⟨HT.out, .inr ⟨HNE.out, rfl⟩⟩
end Go.Proofs.YtboofamenpcnhaaGreatDoor
