/- Own: loops of DiskPlays. No statement is proved here. -/
import Derived.Test.YtckeackepolhdaaHelp
namespace Go.Proofs.Ytckeackepolhdaa
open Go.RowKit
set_option linter.unusedVariables false
set_option linter.unusedSimpArgs false

theorem exec_append2 {P : Program} (ev : Operand → Value) (op : Oper) (s x : Operand) (t tn : TypeId) (ho : op.op = .call { callee := .builtin .append, args := #[s, x], argTypes := #[t, tn] }) (v v2 v' : Value) (w w' : World) (hs : ev s = v) (hx : ev x = v2)
    (hrun : (Builtin.append_ #[t, tn] op.type #[v, v2]).run P w = .ok v' w') : (execOp ev op).run P w = .ok (.value v') w' := by
  unfold execOp
  simp only [ho, resolve, invoke, builtin, Sem.run_bind, Sem.run_pure, Result.andThen_ok, List.map_toArray, List.map_cons, List.map_nil, hs, hx, hrun]
theorem arm_leftI (d : DiskM) (n : Int) : leftI (d.armedBy n) = if 0 ≤ n then n else -1 := by
  unfold leftI DiskM.armedBy
  by_cases h : 0 ≤ n
  · simp [h]; omega
  · simp [h]
theorem arm_left8 (d : DiskM) {n : Int} (h : n ≤ 8) : (d.armedBy n).left ≤ 8 := by show n.toNat ≤ 8; omega
section
variable {w0 w : World} {D k SB : Nat} {d : DiskM} {F R : Nat → Prop} {vs : List Value} {us : List Value} {sl : List (List Int)} {wl : List (Nat × List Int)} {aa aw : Option Addr} {m ca cw : Nat} {av bv : Value}
theorem RSt.nums' (h : RSt w0 w D k SB d F R vs (.slice aa m ca) bv us sl wl) (e : wl = d.wet) (hm : d.wet.length = m) : NumsAt w aa m (numsOf d.wet) := by subst e; exact h.nums hm rfl
theorem RSt.vals' (h : RSt w0 w D k SB d F R vs av (.slice aw m cw) us sl wl) (e : wl = d.wet) (hm : d.wet.length = m) : ValsAt w aw m us := by subst e; exact h.vals hm rfl
theorem RSt.slicesM (h : RSt w0 w D k SB d F R vs av bv us sl wl) (e : wl = d.wet) (hm : d.wet.length = m) : ∀ j, j < m → ∃ a l c, us.getD j undef = .slice a l c := by subst e; intro j hj; exact h.slices j (by omega)
theorem RSt.ksM (h : RSt w0 w D k SB d F R vs av bv us sl wl) (hm : wl.length = m) : ∀ j, j < m → (numsOf wl).getD j 0 < k := fun j hj => by rw [nums_get]; exact h.wk j (by omega)
end
end Go.Proofs.Ytckeackepolhdaa
