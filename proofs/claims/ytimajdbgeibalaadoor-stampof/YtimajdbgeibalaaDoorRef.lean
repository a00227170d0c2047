/- Own: the reference's sum, loop by loop. No statement is proved here. -/
import Derived.Test.YtimajdbgeibalaaDoorRefMath
namespace Go.Proofs.YtimajdbgeibalaaDoor
open Go.RowKit
set_option linter.unusedVariables false
set_option linter.unusedSimpArgs false

/-- The loops of a code, in the order of the text. -/
def loopsOf : Code → List Code
  | .loop c => c :: loopsOf c
  | .seq a b => loopsOf a ++ loopsOf b
  | .block _ c => loopsOf c
  | .scope c => loopsOf c
  | .cond _ a b => loopsOf a ++ loopsOf b
  | _ => []
noncomputable def refLoops : List Code := match Tryd.f11.body with | some c => loopsOf c | none => []
noncomputable def refBody (n : Nat) : Code := refLoops.getD n .skip
structure Same (w w' : World) : Prop where
  heap : w'.heap = w.heap
  turn : Turn (fun _ => False) w w'
theorem Same.refl (w : World) : Same w w := ⟨rfl, Turn.refl _ w⟩
theorem Same.drewN {w w' : World} (h : Same w w') (k : Nat) : Same w (w'.drewN k) := ⟨h.heap, h.turn.drewN k⟩
theorem append_keeps {P : Program} (w : World) (t ty e : TypeId) (i : TypeInfo) (z : Value) (bytes : Nat) (ht : P.underlying t = some (.slice e)) (hi : P.info? e = some i) (hz : i.zero = some z)
    (hsize : i.size = 1) (hby : i.bytes = bytes) (base g cap n : Nat) (xs : List Value) (hown : w.ownsRow base e 1 (.slice (some ⟨g, 0, none⟩) n cap) n xs)
    (a : Addr) (u : Value) (c : Nat) (hnews : ∀ j x, [u][j]? = some x → w.cell? (a.add j) = some x) (h1 : ∀ x ∈ [u], x.oneCell' = true)
    (h63 : n + 1 ≤ maxLen) (hbytes : (n + 1) * bytes ≤ 140737488355328) (v' : Value) (w' : World)
    (hrun : (Builtin.append_ #[t, t] ty #[.slice (some ⟨g, 0, none⟩) n cap, .slice (some a) 1 c]).run P w = .ok v' w') : ∀ j, j < n → w'.cell? ⟨g, j, none⟩ = w.cell? ⟨g, j, none⟩ := by
  have hsmall : n + 1 ≤ 9223372036854775807 := by simp only [maxLen] at h63; omega
  intro j hj
  rcases hown.2 with ⟨h, _⟩ | ⟨g', cap', cur, h, hbg, hg, hnc, hcm, hcs, htake⟩
  · cases h
  · injection h with e1 _ e3
    injection e1 with e1
    injection e1 with e1
    subst e1 e3
    by_cases hroom : n + 1 ≤ cap
    · have hr := run_append_room (P := P) w t ty e i ht hi g n cap cur hg a 1 c [u] (by simp [hsize]) hnews h1 hroom (by rw [hsize]; simp; omega)
      rw [hr] at hrun
      cases hrun
      rw [cell_setRow_same w g j cur _ e (0, 0) hg, cell_of_row w g j cur e (0, 0) hg, hsize]
      have hjc : j < cur.size := by omega
      simp [List.getElem?_append, List.getElem?_take, hj, hjc]
      omega
    · have hr := run_append_grow (P := P) w t ty e i z ht hi hz ⟨g, 0, none⟩ n cap xs (by rw [hsize]; exact hown.1) (hown.cells (g := g) rfl) a 1 c [u] (by simp [hsize]) hnews (by omega) (by omega) (by rw [hby]; exact growslice_fits (by omega) hbytes)
      rw [hr] at hrun
      cases hrun
      exact World.cell?_alloc_past _ _ _ (Array.getElem?_eq_some_iff.1 hg).1
theorem own_slice39 {w : World} {base : Nat} {v : Value} {n : Nat} {xs : List Value} (h : w.ownsRow base 39 1 v n xs) : ∃ a c, v = .slice a n c := by
  rcases h.2 with ⟨rfl, rfl⟩ | ⟨g, cap', _, rfl, _⟩
  · exact ⟨_, _, rfl⟩
  · exact ⟨_, _, rfl⟩
theorem own_some39 {w : World} {base : Nat} {v : Value} {n : Nat} {xs : List Value} (h : w.ownsRow base 39 1 v n xs) (h0 : 0 < n) : ∃ g c, v = .slice (some ⟨g, 0, none⟩) n c ∧ base ≤ g ∧ g < w.heap.size := by
  rcases h.2 with ⟨rfl, rfl⟩ | ⟨g, cap', cur, rfl, hb, hg, _⟩
  · omega
  · exact ⟨_, _, rfl, hb, (Array.getElem?_eq_some_iff.1 hg).1⟩
theorem own_cell39 {w : World} {base g n c : Nat} {ws : List Int} (h : w.ownsRow base 39 1 (.slice (some ⟨g, 0, none⟩) n c) n (ws.map (Value.int .u32))) (i : Nat) (hi : i < n) : w.cell? ⟨g, i, none⟩ = some (.int .u32 (ws.getD i 0)) := by
  have hl : ws.length = n := by have := h.1; simpa using this
  rw [h.cellAt i (by omega)]
  simp [List.getD, show i < ws.length by omega]
theorem one_cell39 (w : World) (x : Int) : ∀ (j : Nat) u, [Value.int .u32 x][j]? = some u → (w.alloc (.cells #[.int .u32 x] 39)).cell? ((⟨w.heap.size, 0, none⟩ : Addr).add j) = some u := by
  intro j u hj
  have hb := heap_alloc_new w (.cells #[.int .u32 x] 39)
  rw [show ((⟨w.heap.size, 0, none⟩ : Addr).add j) = ⟨w.heap.size, 0 + j, none⟩ by unfold Addr.add; split <;> simp_all, Nat.zero_add, cell_of_row _ _ _ _ 39 (0, 0) hb]
  simpa using hj
theorem exec_append {P : Program} (ev : Operand → Value) (op : Oper) (s x : Operand) (t : TypeId) (ho : op.op = .call { callee := .builtin .append, args := #[s, x], argTypes := #[t, t] }) (v v2 v' : Value) (w w' : World) (hs : ev s = v) (hx : ev x = v2)
    (hrun : (Builtin.append_ #[t, t] op.type #[v, v2]).run P w = .ok v' w') : (execOp ev op).run P w = .ok (.value v') w' := by
  unfold execOp
  simp only [ho, resolve, invoke, builtin, Sem.run_bind, Sem.run_pure, Result.andThen_ok, List.map_toArray, List.map_cons, List.map_nil, hs, hx, hrun]
theorem oper_exec {P : Program} {op : Oper} {a : Act} {w : World} {K : Act → World → Prop} {Q : Exit → Act → World → Prop} (v : Value) (w' : World) (h : (execOp a.eval op).run P w = .ok (.value v) w') (hk : K (a.put op.dst v) w') : op.wp P a w K Q := by
  unfold Oper.wp
  rw [h]
  exact hk
theorem Same.cell {w w' : World} (h : Same w w') {p : Addr} {v : Value} (hc : w.cell? p = some v) : w'.cell? p = some v := (World.cell?_of_block (w := w) (by rw [h.heap])).trans hc
end Go.Proofs.YtimajdbgeibalaaDoor
