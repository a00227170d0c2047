/- Own contracts: EditBack: kit. No statement is proved here. -/
import Derived.Test.YtbokdgcdkmnldaaLa
import Derived.Test.YtbokdgcdkmnldaaOa
namespace Go.Proofs.Ytbokdgcdkmnldaa
set_option maxRecDepth 100000
open Go.RowKit
set_option linter.unusedVariables false
set_option linter.unusedSimpArgs false

/-- A row of bytes. -/
theorem Src.form' {w : World} {v : Value} {hs : List Int} (h : Src w v hs) : ∃ a c, v = .slice a hs.length c := by
  rcases h with (⟨rfl, rfl⟩ | ⟨g, o, c, rfl, _⟩) | ⟨x, c, rfl, rfl⟩
  · exact ⟨_, _, rfl⟩
  · exact ⟨_, _, rfl⟩
  · exact ⟨_, _, rfl⟩
theorem Src.one' {w : World} {a : Option Addr} {n c : Nat} {hs : List Int} (h : Src w (.slice a n c) hs) (hn : hs.length = n) (k : Nat) (hk : k < n) : ∃ g o, a = some ⟨g, o, none⟩ ∧ n ≤ c ∧ w.cell? ⟨g, o + k, none⟩ = some (.int .u8 (hs.getD k 0)) := by
  subst hn
  rcases h with (⟨h1, rfl⟩ | ⟨g, o, c', h1, h2, h3⟩) | ⟨x, c', h1, rfl⟩
  · simp at hk
  · injection h1 with q1 q2 q3
    exact ⟨g, o, q1, by omega, h3 k hk⟩
  · simp at hk
/-- A chart that a law holds: an argument's, or in a block of elements. -/
def ChV (w0 w : World) (v : Value) (l : List El) : Prop := RowV w v l ∧ (0 < l.length → ∀ q, v.ownBlock = some q → q < w0.heap.size ∨ ∃ cs, w.heap[q]? = some (.cells cs 24 (0, 0)))
theorem RowV.turn2 {w w' : World} {v : Value} {l : List El} {G : Nat → Prop} (h : RowV w v l) (t : Turn G w w') (hn : 0 < l.length → ∀ q, v.ownBlock = some q → ¬ G q) : RowV w' v l := by
  by_cases h0 : 0 < l.length
  · exact h.turn t (hn h0)
  · rcases h with h | ⟨g, o, c, h1, h2, _, _⟩
    · exact .inl h
    · exact .inr ⟨g, o, c, h1, h2, fun h => absurd h h0, fun k hk => absurd (by omega) h0⟩
theorem ChV.turn {w0 w w' : World} {v : Value} {l : List El} (h : ChV w0 w v l) (t : Turn (fun _ => False) w w') : ChV w0 w' v l :=
  ⟨h.1.turn t (fun _ _ => id), fun h0 q hq => (h.2 h0 q hq).imp id (fun ⟨cs, hc⟩ => ⟨cs, (t.block q (Array.getElem?_eq_some_iff.1 hc).1 id).trans hc⟩)⟩
theorem ChV.own {w0 w w' : World} {v yv : Value} {l : List El} {ys : List Ed} (h : ChV w0 w v l) (hy : OwE w0.heap.size w yv ys) (t : Turn (fun q => yv.ownBlock = some q) w w') : ChV w0 w' v l := by
  have ne : 0 < l.length → ∀ q, v.ownBlock = some q → ¬ yv.ownBlock = some q := fun h0 q hq e => by
    rcases hy.2 with ⟨rfl, _⟩ | ⟨g, cap, cur, rfl, hg, hh, _⟩
    · cases e
    · injection e with e
      subst e
      rcases h.2 h0 g hq with h1 | ⟨cs, h1⟩
      · omega
      · rw [hh] at h1
        injection h1 with h1
        injection h1 with _ h2 _
        exact absurd h2 (by decide)
  refine ⟨h.1.turn2 t ne, fun h0 q hq => (h.2 h0 q hq).imp id (fun ⟨cs, hc⟩ => ⟨cs, (t.block q (Array.getElem?_eq_some_iff.1 hc).1 (ne h0 q hq)).trans hc⟩)⟩
theorem ChV.new {w0 w : World} {v : Value} {l : List El} (h : RowV w v l) (t : Ty24 w v) : ChV w0 w v l := ⟨h, fun _ q hq => .inr (t q hq)⟩
theorem ChV.arg {w w' : World} {v : Value} {l : List El} (h : RowV w v l) (t : Turn (fun _ => False) w w') : ChV w w' v l := by
  refine ⟨h.turn t (fun _ _ => id), fun h0 q hq => .inl ?_⟩
  rcases h with ⟨rfl, _⟩ | ⟨g, o, c, rfl, _, h3, _⟩
  · cases hq
  · injection hq with hq
    exact hq ▸ h3 h0
theorem apply_ok : ∀ {xs : List Ed} {l : List El} {k : Nat}, KOk l → (∀ x ∈ xs, EdOk x) → KOk (applyFrom l xs k).1 := by
  intro xs
  induction xs with
  | nil => intro l k h _; exact h
  | cons x xs ih =>
    intro l k h hx
    simp only [applyFrom]
    split
    · exact ih (oneE_ok h (hx x (by simp)) rfl) (fun y hy => hx y (by simp [hy]))
    · exact fun y hy => by cases hy
theorem applyE_ok {xs : List Ed} {l : List El} (h : KOk l) (hx : ∀ x ∈ xs, EdOk x) : KOk (applyE l xs).1 := by
  unfold applyE
  split
  · exact fun y hy => by cases hy
  · exact apply_ok h hx
theorem inv_ok {xs : List Ed} (hx : ∀ x ∈ xs, EdOk x) : ∀ x ∈ invE xs, EdOk x := fun x h => by
  unfold invE at h
  obtain ⟨y, hy, rfl⟩ := List.mem_map.1 h
  exact turn_ok (hx y (List.mem_reverse.1 hy))

end Go.Proofs.Ytbokdgcdkmnldaa
