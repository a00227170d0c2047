/- Own texts, packed: Mp. No statement is proved here. -/
import Derived.Test.YtkciaafkhpjnaaaQ04
import Derived.Maps.OwnSet
import Derived.Maps.Range
namespace Go.Proofs.Ytkciaafkhpjnaaa
set_option maxRecDepth 100000
open Go.RowKit
set_option linter.unusedVariables false
set_option linter.unusedSimpArgs false

def heldV (v : Value) : Option (DataW Value × List MemPlace) := some (.held v, [])
theorem law3 : Maps.Keyed Try.prog 3 := Maps.int_keyed Try.underlying3
def kI (p : Int) : Lit := .int .i64 p
theorem keyI {p : Int} (h : I64 p) : keyOf Try.prog 3 (.int .i64 p) = some (kI p) := Maps.keyOf_int_mk Try.underlying3 (by
  exact WalkArith.wf_i64 (by have := h.1; have := h.2; omega))
theorem kI_inj {p q : Int} (h : kI p = kI q) : p = q := by unfold kI at h; cases h; rfl
theorem kI_key (p : Int) : WideAt.IsKeyLit (kI p) := trivial
theorem zero_sl24 (w : World) : (zeroValue 24).run Try.prog w = .ok (.slice none 0 0) w := by kernel_rfl
/-- A map of numbers to values, told by what it has. -/
structure MapO (w : World) (B n : Nat) (D : DataW Value) (M : Int → Option Value) : Prop where
  own : w.ownsMap Try.prog 3 heldV B n D
  get : ∀ p, I64 p → ∀ z, D.atKey (kI p) z = match M p with | some v => .held v | none => z
  only : ∀ l, Maps.has D l = true → ∃ p, I64 p ∧ l = kI p
def MapP (w : World) (B n : Nat) (M : Int → Option Value) : Prop := ∃ D, MapO w B n D M
def updM (M : Int → Option Value) (p : Int) (v : Option Value) : Int → Option Value := fun q => if q = p then v else M q
theorem MapP.made (w : World) : MapP (w.alloc (.map #[] 0)) w.heap.size 0 (fun _ => none) :=
  ⟨_, World.ownsMap_made w _ _ _, fun p _ z => rfl, fun l h => by simp [Maps.has] at h⟩
theorem MapP.turn {w w' : World} {B n : Nat} {M : Int → Option Value} {G : Nat → Prop} (h : MapP w B n M) (t : Turn G w w') (hB : ¬ G B) : MapP w' B n M := by
  obtain ⟨D, ⟨es, clock, hb, r⟩, h2, h3⟩ := h
  exact ⟨D, ⟨es, clock, (t.block B (Array.getElem?_eq_some_iff.1 hb).1 hB).trans hb, r⟩, h2, h3⟩
theorem MapP.lt {w : World} {B n : Nat} {M : Int → Option Value} (h : MapP w B n M) : B < w.heap.size := by
  obtain ⟨D, h1, _⟩ := h
  exact h1.lt
theorem MapP.obj {w : World} {B n : Nat} {M : Int → Option Value} (h : MapP w B n M) : ∃ es clock, w.heap[B]? = some (.map es clock) := by
  obtain ⟨D, ⟨es, clock, hb, _⟩, _⟩ := h
  exact ⟨es, clock, hb⟩
theorem MapP.look {w : World} {B n : Nat} {M : Int → Option Value} (h : MapP w B n M) {p : Int} (hp : I64 p) : (Instr.lookup 102 (.map (some B)) (.int .i64 p) false).run Try.prog w = .ok ((M p).getD (.slice none 0 0)) w := by
  obtain ⟨D, h1, h2, _⟩ := h
  obtain ⟨v, ps, hrun, hv⟩ := h1.lookup law3 Try.underlying102 (zero_sl24 w) (zd := .held (.slice none 0 0)) (zp := []) rfl (keyI hp)
  rw [h2 p hp] at hv
  rw [hrun]
  unfold heldV at hv
  cases hM : M p with
  | none => rw [hM] at hv; simp at hv; simp [hv.1]
  | some u => rw [hM] at hv; simp at hv; simp [hv.1]
theorem MapP.put {w : World} {B n : Nat} {M : Int → Option Value} (h : MapP w B n M) {p : Int} (hp : I64 p) (hn : n ≤ 100000) (v : Value) : ∃ w', (Instr.mapUpdate 102 (.map (some B)) (.int .i64 p) v).run Try.prog w = .ok () w' ∧ MapP w' B (n + 1) (updM M p (some v)) ∧ Turn (fun q => q = B) w w' := by
  obtain ⟨D, h1, h2, h3⟩ := h
  obtain ⟨w', hrun, r1, r2⟩ := h1.update law3 Try.underlying102 (by unfold maxLen; omega) (keyI hp) (val := v) (d := .held v) (ps := []) rfl
  refine ⟨w', hrun, ⟨_, r1, ?_, ?_⟩, (Turn.refl _ w).grown r2 (fun k hk _ => (Option.some.inj hk).symm)⟩
  · intro q hq z
    unfold updM
    by_cases e : q = p
    · subst e; rw [if_pos rfl]; exact Maps.atKey_put_same h1.isMap (kI_key _) _ _
    · rw [if_neg e, Maps.atKey_put_other (fun e1 => e (kI_inj e1))]; exact h2 q hq z
  · intro l hl
    by_cases e : l = kI p
    · exact ⟨p, hp, e⟩
    · rw [Maps.has_put_other e] at hl; exact h3 l hl
theorem MapP.del {w : World} {B n : Nat} {M : Int → Option Value} (h : MapP w B n M) {p : Int} (hp : I64 p) (ty : TypeId) : ∃ w', (Builtin.delete_ #[102, 3] ty #[.map (some B), .int .i64 p]).run Try.prog w = .ok (.tuple #[]) w' ∧ MapP w' B n (updM M p none) ∧ Turn (fun q => q = B) w w' := by
  obtain ⟨D, h1, h2, h3⟩ := h
  obtain ⟨w', hrun, r1, r2⟩ := h1.drop law3 Try.underlying102 (keyI hp) ty
  refine ⟨w', hrun, ⟨_, r1, ?_, ?_⟩, (Turn.refl _ w).grown r2.grown (fun k hk _ => (Option.some.inj hk).symm)⟩
  · intro q hq z
    unfold updM
    by_cases e : q = p
    · subst e; rw [if_pos rfl]; exact Maps.atKey_del_same _
    · rw [if_neg e, Maps.atKey_del_other (fun e1 => e (kI_inj e1))]; exact h2 q hq z
  · intro l hl
    by_cases e : l = kI p
    · exact ⟨p, hp, e⟩
    · rw [Maps.has_del_other e] at hl; exact h3 l hl
theorem MapP.len {w : World} {B n : Nat} {M : Int → Option Value} (h : MapP w B n M) (ty : TypeId) : ∃ s : Nat, (Builtin.len_ #[102] ty #[.map (some B)]).run Try.prog w = .ok (.int .i64 (s : Int)) w ∧ s ≤ n ∧ (s = 0 ↔ ∀ p, I64 p → M p = none) := by
  obtain ⟨D, h1, h2, h3⟩ := h
  refine ⟨Maps.size D, h1.len Try.underlying102 ty, h1.size_le, ?_⟩
  obtain ⟨es, rfl, _, hk⟩ := h1.entries law3
  rw [Maps.size_eq]
  constructor
  · intro e p hp
    rw [List.length_eq_zero_iff] at e
    subst e
    have := h2 p hp (.held (.int .i64 0))
    cases hM : M p with
    | none => rfl
    | some v =>
      have h4 := h2 p hp .nil
      rw [hM] at h4
      simp [DataW.atKey] at h4
  · intro hM
    cases es with
    | nil => rfl
    | cons x es =>
      have hh : Maps.has (.map (x :: es)) x.1 = true := by
        rw [Maps.has_eq, List.any_cons, WideAt.sameKey_self (hk x (by simp)), Bool.true_or]
      obtain ⟨p, hp, e⟩ := h3 _ hh
      have h4 := Maps.has_false_of_atKey (D := .map (x :: es)) (k := kI p) (fun z => by rw [h2 p hp z, hM p hp])
      rw [e, h4] at hh
      cases hh
/-- At the operation. -/
theorem exec_look {w : World} {B n : Nat} {M : Int → Option Value} (h : MapP w B n M) {p : Int} (hp : I64 p) (ev : Operand → Value) (op : Oper) (m x : Operand) (ho : op.op = .lookup 102 m x false) (hm : ev m = .map (some B)) (hx : ev x = .int .i64 p) : (execOp ev op).run Try.prog w = .ok (.value ((M p).getD (.slice none 0 0))) w := by
  have hr := h.look hp
  unfold execOp
  simp only [ho, hm, hx, Sem.run_bind, Sem.run_pure, Result.andThen_ok, hr]
theorem exec_mapPut {w w' : World} {B : Nat} {p : Int} {v : Value} (hr : (Instr.mapUpdate 102 (.map (some B)) (.int .i64 p) v).run Try.prog w = .ok () w') (ev : Operand → Value) (op : Oper) (m x y : Operand) (ho : op.op = .mapUpdate 102 m x y) (hm : ev m = .map (some B)) (hx : ev x = .int .i64 p) (hy : ev y = v) : (execOp ev op).run Try.prog w = .ok .skip w' := by
  unfold execOp
  simp only [ho, hm, hx, hy, Sem.run_bind, Sem.run_pure, Result.andThen_ok, hr]
theorem exec_mapDel {w w' : World} {B : Nat} {p : Int} (ev : Operand → Value) (op : Oper) (m x : Operand) (ho : op.op = .call { callee := .builtin .delete, args := #[m, x], argTypes := #[102, 3] }) (hr : (Builtin.delete_ #[102, 3] op.type #[.map (some B), .int .i64 p]).run Try.prog w = .ok (.tuple #[]) w') (hm : ev m = .map (some B)) (hx : ev x = .int .i64 p) : (execOp ev op).run Try.prog w = .ok (.value (.tuple #[])) w' := by
  unfold execOp
  simp only [ho, resolve, invoke, builtin, Sem.run_bind, Sem.run_pure, Result.andThen_ok, List.map_toArray, List.map_cons, List.map_nil, hm, hx, hr]
theorem exec_mapLen {w : World} {B : Nat} {s : Int} (ev : Operand → Value) (op : Oper) (m : Operand) (ho : op.op = .call { callee := .builtin .len, args := #[m], argTypes := #[102] }) (hr : (Builtin.len_ #[102] op.type #[.map (some B)]).run Try.prog w = .ok (.int .i64 s) w) (hm : ev m = .map (some B)) : (execOp ev op).run Try.prog w = .ok (.value (.int .i64 s)) w := by
  unfold execOp
  simp only [ho, resolve, invoke, builtin, Sem.run_bind, Sem.run_pure, Result.andThen_ok, List.map_toArray, List.map_cons, List.map_nil, hm, hr]

end Go.Proofs.Ytkciaafkhpjnaaa
