/- Own contracts: an element is put. No statement is proved here. -/
import Derived.Test.YtifhnidcodhoeaaCc
namespace Go.Proofs.Ytifhnidcodhoeaa
set_option maxRecDepth 100000
open Go.RowKit
set_option linter.unusedVariables false
set_option linter.unusedSimpArgs false


theorem RowV.cap {w : World} {la : Option Addr} {n lc : Nat} {l : List El} (h : RowV w (.slice la n lc) l) (hn : l.length = n) : n ≤ lc := by
  rcases h with ⟨h1, h2⟩ | ⟨g, o, c, h1, h2, h3, h4⟩
  · injection h1 with q1 q2 q3; omega
  · injection h1 with q1 q2 q3; omega
theorem RowV.take {w : World} {la : Option Addr} {n lc : Nat} {l : List El} (h : RowV w (.slice la n lc) l) (p : Nat) (hp : p ≤ l.length) : RowV w (.slice la p lc) (l.take p) := by
  rcases h with ⟨h1, h2⟩ | ⟨g, o, c, h1, h2, h3, h4⟩
  · injection h1 with q1 q2 q3
    subst h2
    obtain rfl : p = 0 := by simpa using hp
    exact .inl ⟨by rw [q1, q3], rfl⟩
  · injection h1 with q1 q2 q3
    have hl : (l.take p).length = p := by simp; omega
    refine .inr ⟨g, o, lc, by rw [q1, hl], by omega, fun h0 => h3 (by omega), fun k hk => ?_⟩
    have hkp : k < p := by omega
    rw [show (l.take p).getD k el0 = l.getD k el0 by simp [List.getD, List.getElem?_take, hkp]]
    exact h4 k (by omega)
theorem RowV.drop {w : World} {la : Option Addr} {n lc : Nat} {l : List El} (h : RowV w (.slice la n lc) l) (hn : l.length = n) (p : Nat) (hp : p ≤ n) : RowV w (.slice (if lc = p then la else la.map (·.add (p * 10))) (n - p) (lc - p)) (l.drop p) := by
  have hcap := h.cap hn
  rcases h with ⟨h1, h2⟩ | ⟨g, o, c, h1, h2, h3, h4⟩
  · injection h1 with q1 q2 q3
    subst q1
    exact .inl ⟨by rw [show n - p = 0 by omega, show lc - p = 0 by omega]; simp, by rw [h2]; simp⟩
  · injection h1 with q1 q2 q3
    subst q1
    have hl : (l.drop p).length = n - p := by simp [hn]
    by_cases hlp : lc = p
    · refine .inr ⟨g, o, lc - p, by rw [if_pos hlp, hl], by omega, fun h0 => by omega, fun k hk => by omega⟩
    · refine .inr ⟨g, o + p * 10, lc - p, by rw [if_neg hlp, hl, Option.map_some, Addr.add_mid], by omega, fun h0 => h3 (by omega), fun k hk => ?_⟩
      rw [show (l.drop p).getD k el0 = l.getD (p + k) el0 by simp [List.getD], show o + p * 10 + k * 10 = o + (p + k) * 10 by omega]
      exact h4 (p + k) (by omega)
/-- A chart with an element; without one. -/
def putE (l : List El) (e : El) : List El := l.filter (fun x => decide (x.id < e.id)) ++ e :: l.filter (fun x => decide (e.id < x.id))
def dropE (l : List El) (nr : Int) : List El := l.filter (fun x => !decide (x.id = nr))
theorem mem_take_at {l : List El} {p : Nat} {x : El} (h : x ∈ l.take p) : ∃ k, k < p ∧ k < l.length ∧ l.getD k el0 = x := by
  obtain ⟨i, hi, rfl⟩ := List.getElem_of_mem h
  have h2 : i < p ∧ i < l.length := by rw [List.length_take] at hi; omega
  exact ⟨i, h2.1, h2.2, by simp [List.getD, h2.2]⟩
theorem mem_drop_at {l : List El} {p : Nat} {x : El} (h : x ∈ l.drop p) : ∃ k, p ≤ k ∧ k < l.length ∧ l.getD k el0 = x := by
  obtain ⟨i, hi, rfl⟩ := List.getElem_of_mem h
  have h2 : p + i < l.length := by simp at hi; omega
  exact ⟨p + i, by omega, h2, by simp [List.getD, h2]⟩
theorem IsPlace.less {l : List El} {nr : Int} {p : Nat} (h : IsPlace l nr p) : l.filter (fun x => decide (x.id < nr)) = l.take p := by
  conv => lhs; rw [← List.take_append_drop p l]
  rw [List.filter_append, List.filter_eq_self.2, List.filter_eq_nil_iff.2, List.append_nil]
  · intro x hx
    obtain ⟨k, h1, h2, rfl⟩ := mem_drop_at hx
    have := h.hi k h1 h2
    simp only [decide_eq_true_eq]; omega
  · intro x hx
    obtain ⟨k, h1, h2, rfl⟩ := mem_take_at hx
    simpa using h.lo k h1
theorem IsPlace.more {l : List El} {nr : Int} {p : Nat} (h : IsPlace l nr p) (hr : Rises l) : l.filter (fun x => decide (nr < x.id)) = if thereB l nr p = true then l.drop (p + 1) else l.drop p := by
  have hlow : ∀ x ∈ l.take p, ¬ (decide (nr < x.id) = true) := fun x hx => by
    obtain ⟨k, h1, h2, rfl⟩ := mem_take_at hx
    have := h.lo k h1
    simp only [decide_eq_true_eq]; omega
  conv => lhs; rw [← List.take_append_drop p l]
  rw [List.filter_append, List.filter_eq_nil_iff.2 hlow, List.nil_append]
  unfold thereB
  by_cases ht : p < l.length ∧ (l.getD p el0).id = nr
  · rw [if_pos (by simpa using ht), List.drop_eq_getElem_cons ht.1, List.filter_cons_of_neg, List.filter_eq_self.2]
    · intro x hx
      obtain ⟨k, h1, h2, rfl⟩ := mem_drop_at hx
      have := hr.get (i := p) (j := k) (by omega) h2
      simp only [decide_eq_true_eq]
      omega
    · have e : l[p]'ht.1 = l.getD p el0 := by simp [List.getD, ht.1]
      rw [e]
      simp only [decide_eq_true_eq]
      omega
  · rw [if_neg (by simpa using ht), List.filter_eq_self.2]
    intro x hx
    obtain ⟨k, h1, h2, rfl⟩ := mem_drop_at hx
    have h3 := h.hi k h1 h2
    simp only [decide_eq_true_eq]
    by_cases e : k = p
    · subst e
      have : (l.getD k el0).id ≠ nr := fun e => ht ⟨h2, e⟩
      omega
    · have h4 := hr.get (i := p) (j := k) (by omega) h2
      have h5 := h.hi p (Nat.le_refl _) (by omega)
      omega
theorem IsPlace.put {l : List El} {e : El} {p : Nat} (h : IsPlace l e.id p) (hr : Rises l) : putE l e = [l.take p, [e], if thereB l e.id p = true then l.drop (p + 1) else l.drop p].flatten := by
  unfold putE
  rw [h.less, h.more hr]
  simp

theorem own_base {w : World} {b b' : Nat} {v : Value} {n : Nat} {xs : List Value} (h : w.ownsRow b 35 10 v n xs) (hb : b' ≤ b) : w.ownsRow b' 35 10 v n xs := by
  refine ⟨h.1, ?_⟩
  rcases h.2 with h | ⟨g, cap, cur, h1, h2, h3⟩
  · exact .inl h
  · exact .inr ⟨g, cap, cur, h1, Nat.le_trans hb h2, h3⟩

end Go.Proofs.Ytifhnidcodhoeaa
