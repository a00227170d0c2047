/- Own contracts: what is put is found. No statement is proved here. -/
import Derived.Test.YtokjlhpkjebnkaaRr
namespace Go.Proofs.Ytokjlhpkjebnkaa
set_option maxRecDepth 100000
open Go.RowKit
set_option linter.unusedVariables false
set_option linter.unusedSimpArgs false


theorem place_found {l : List El} (hr : Rises l) {nr : Int} {p : Nat} (h : IsPlace l nr p) {k : Nat} (hk : k < l.length) (he : (l.getD k el0).id = nr) : p = k ∧ thereB l nr p = true := by
  have h1 : ¬ k < p := fun hlt => by have := h.lo k hlt; omega
  have h2 : ¬ p < k := fun hlt => by
    have := hr.get hlt hk
    have := h.hi p (Nat.le_refl _) (by omega)
    omega
  have e : p = k := by omega
  subst e
  exact ⟨rfl, by unfold thereB; exact decide_eq_true ⟨hk, he⟩⟩
theorem place_none {l : List El} {nr : Int} {p : Nat} (h : ∀ j, j < l.length → (l.getD j el0).id ≠ nr) : thereB l nr p = false := by
  unfold thereB
  exact decide_eq_false (fun ⟨h1, h2⟩ => h p h1 h2)
theorem mem_at {l : List El} {x : El} (h : x ∈ l) : ∃ k, k < l.length ∧ l.getD k el0 = x := by
  obtain ⟨i, hi, rfl⟩ := List.getElem_of_mem h
  exact ⟨i, hi, by simp [List.getD, hi]⟩
theorem exec_neq_same (ev : Operand → Value) (op : Oper) {a b : Operand} (ho : op.op = .binOp .neq 24 a b 24) (x : El) (w : World) (h1 : ev a = .agg x.vals.toArray) (h2 : ev b = .agg x.vals.toArray) : (execOp ev op).run Try.prog w = .ok (.value (.bool false)) w := by
  have hq := exec_neq_el ev op ho x x w h1 h2
  rwa [decide_eq_true rfl] at hq
theorem exec_eql_same (ev : Operand → Value) (op : Oper) {a b : Operand} (ho : op.op = .binOp .eql 24 a b 24) (x : El) (w : World) (h1 : ev a = .agg x.vals.toArray) (h2 : ev b = .agg x.vals.toArray) : (execOp ev op).run Try.prog w = .ok (.value (.bool true)) w := by
  have hq := exec_eql_el ev op ho x x w h1 h2
  rwa [decide_eq_true rfl] at hq
theorem find_put {l : List El} (hr : Rises l) (e : El) {p : Nat} (h : IsPlace (putE l e) e.id p) : thereB (putE l e) e.id p = true ∧ findX (putE l e) e.id p = e := by
  obtain ⟨k, hk, hx⟩ := mem_at (mem_putE.2 (.inl rfl) : e ∈ putE l e)
  obtain ⟨rfl, ht⟩ := place_found (hr.put e) h hk (by rw [hx])
  exact ⟨ht, by unfold findX; rw [ht, if_pos rfl, hx]⟩
end Go.Proofs.Ytokjlhpkjebnkaa
