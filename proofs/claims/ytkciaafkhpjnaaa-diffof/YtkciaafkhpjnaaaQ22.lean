/- Own texts, packed: Sr. No statement is proved here. -/
import Derived.Test.YtkciaafkhpjnaaaQ04
import Derived.Shelf.SlSortCmp.WholeK
namespace Go.Proofs.Ytkciaafkhpjnaaa
set_option maxRecDepth 100000
open Go.RowKit
set_option linter.unusedVariables false
set_option linter.unusedSimpArgs false

section
variable {α : Type} [Inhabited α]
theorem flat_at {enc : α → List Value} {k : Nat} (hk : ∀ x, (enc x).length = k) (k0 : 0 < k) : ∀ (l : List α) (t : Nat), t < l.length * k → (l.flatMap enc)[t]? = some ((enc (l.toArray[t / k]!))[t % k]!) := by
  intro l
  induction l with
  | nil => intro t ht; simp at ht
  | cons a l ih =>
    intro t ht
    rw [List.flatMap_cons]
    by_cases h : t < k
    · rw [List.getElem?_append_left (by rw [hk]; exact h), Nat.div_eq_of_lt h, Nat.mod_eq_of_lt h, List.getElem?_eq_getElem (by rw [hk]; exact h)]
      rw [show (a :: l).toArray[0]! = a from rfl, getElem!_pos (enc a) t (by rw [hk]; exact h)]
    · have hk' : k ≤ t := by omega
      rw [List.getElem?_append_right (by rw [hk]; exact hk'), hk, ih (t - k) (by rw [List.length_cons, Nat.succ_mul] at ht; omega)]
      have e1 : t / k = (t - k) / k + 1 := by
        rw [show t = (t - k) + k by omega, Nat.add_div_right _ k0]; simp
      have e2 : (t - k) % k = t % k := by
        rw [show t = (t - k) + k by omega, Nat.add_mod_right]; simp
      have e3 : (a :: l).toArray[(t - k) / k + 1]! = l.toArray[(t - k) / k]! := by
        simp only [List.getElem!_toArray]
        rfl
      rw [e1, e2, e3]
theorem flat_list {enc : α → List Value} {k : Nat} (hk : ∀ x, (enc x).length = k) (k0 : 0 < k) (l : List α) : (Sort.flatK enc k l.toArray).toList = l.flatMap enc := by
  have hl : (l.flatMap enc).length = l.length * k := by
    induction l with
    | nil => simp
    | cons a l ih => rw [List.flatMap_cons, List.length_append, hk, ih, List.length_cons, Nat.succ_mul]; omega
  refine List.ext_getElem? fun t => ?_
  by_cases ht : t < l.length * k
  · rw [flat_at hk k0 l t ht]
    have hs : t < (Sort.flatK enc k l.toArray).size := by simpa using ht
    rw [Array.getElem?_toList, Array.getElem?_eq_getElem hs, ← getElem!_pos (Sort.flatK enc k l.toArray) t hs, Sort.get_flatK _ _ _ _ (by simpa using ht)]
  · rw [List.getElem?_eq_none (l := (Sort.flatK enc k l.toArray).toList) (by simp; omega), List.getElem?_eq_none (l := l.flatMap enc) (by rw [hl]; omega)]
theorem row_holds {enc : α → List Value} {k : Nat} (hk : ∀ x, (enc x).length = k) (k0 : 0 < k) {w : World} {base e g n c : Nat} {l : List α} (ho : w.ownsRow base e k (.slice (some ⟨g, 0, none⟩) n c) n (l.flatMap enc)) (hn : l.length = n) : Sort.HoldsK enc k w g 0 l.toArray := by
  intro j hj
  rw [Sort.size_flatK, List.size_toArray] at hj
  have h1 : (Sort.flatK enc k l.toArray)[j]! = ((l.flatMap enc)[j]?).getD default := by
    rw [← flat_list hk k0 l, Array.getElem?_toList, getElem!_def]; cases (Sort.flatK enc k l.toArray)[j]? <;> rfl
  have h2 := flat_at hk k0 l j hj
  rcases ho.2 with ⟨h, _⟩ | ⟨g', cap, cur, hv, _, hh, hnc, _, hcs, htk⟩
  · cases h
  · cases hv
    have hcc : ∀ v, (l.flatMap enc)[j]? = some v → w.cell? ⟨g, 0 + j, none⟩ = some v := fun v hv => by
      rw [Nat.zero_add, cell_of_row w g j cur e (0, 0) hh]
      rw [← htk, List.getElem?_take] at hv
      split at hv
      · rw [← hv]; simp
      · cases hv
    refine ⟨?_, frozen_of_row w g (0 + j) cur e hh⟩
    rw [hcc _ h2, h1, h2]
    rfl
theorem putCells_take (F cur : Array Value) (h : F.size ≤ cur.size) : (Sort.putCells id 0 F cur).toList.take F.size = F.toList ∧ (Sort.putCells id 0 F cur).size = cur.size := by
  refine ⟨?_, by simp [Sort.putCells]⟩
  refine List.ext_getElem? fun t => ?_
  rw [List.getElem?_take]
  by_cases ht : t < F.size
  · rw [if_pos ht, Array.getElem?_toList, Array.getElem?_toList, Array.getElem?_eq_getElem ht]
    unfold Sort.putCells
    rw [Array.getElem?_mapIdx, Array.getElem?_eq_getElem (by omega)]
    simp [ht]
  · rw [if_neg ht, List.getElem?_eq_none (by simp; omega)]
theorem sort_own {enc : α → List Value} {k : Nat} (hk : ∀ x, (enc x).length = k) (k0 : 0 < k) {w : World} {base e g n c : Nat} {l l' : List α} (ho : w.ownsRow base e k (.slice (some ⟨g, 0, none⟩) n c) n (l.flatMap enc)) (hn' : l'.length = n) (m : Nat) (os : Array Obj) :
    (sortWorldK enc k w g 0 m l'.toArray os).ownsRow base e k (.slice (some ⟨g, 0, none⟩) n c) n (l'.flatMap enc) ∧ Turn (fun q => q = g) w (sortWorldK enc k w g 0 m l'.toArray os) := by
  have hF : (Sort.flatK enc k l'.toArray).size = n * k := by simp [hn']
  have hlen : (l'.flatMap enc).length = n * k := by rw [← flat_list hk k0 l', Array.length_toList, hF]
  rcases ho.2 with ⟨h, _⟩ | ⟨g', cap, cur, hv, hb, hh, hnc, hcm, hcs, htk⟩
  · cases h
  · cases hv
    have hgl : g < w.heap.size := (Array.getElem?_eq_some_iff.1 hh).1
    have hle : (Sort.flatK enc k l'.toArray).size ≤ cur.size := by rw [hF, hcs]; exact Nat.mul_le_mul_right _ hnc
    have hheap : (sortWorldK enc k w g 0 m l'.toArray os).heap[g]? = some (.cells (Sort.putCells id 0 (Sort.flatK enc k l'.toArray) cur) e (0, 0)) := by
      show (Sort.grow (Sort.putRowK enc k (Sort.ahead w m) g 0 l'.toArray) os).heap[g]? = _
      rw [Sort.heap_grow_old _ _ (by show g < ((Sort.ahead w m).heap.modify g _).size; rw [Array.size_modify]; exact hgl)]
      show ((Sort.ahead w m).heap.modify g _)[g]? = _
      rw [Array.getElem?_modify, if_pos rfl]
      show (w.heap[g]?).map _ = _
      rw [hh]
      rfl
    obtain ⟨q1, q2⟩ := putCells_take (Sort.flatK enc k l'.toArray) cur hle
    refine ⟨⟨hlen, .inr ⟨g, _, _, rfl, hb, hheap, hnc, hcm, by rw [q2, hcs], ?_⟩⟩, ⟨rfl, rfl, rfl, ?_, ?_⟩⟩
    · rw [← flat_list hk k0 l', ← q1, hF]
    · show w.heap.size ≤ (Sort.grow _ os).heap.size
      rw [Sort.size_grow]
      show w.heap.size ≤ (w.heap.modify g _).size + _
      rw [Array.size_modify]; omega
    · intro i hi hne
      show (Sort.grow (Sort.putRowK enc k (Sort.ahead w m) g 0 l'.toArray) os).heap[i]? = _
      rw [Sort.heap_grow_old _ _ (by show i < ((Sort.ahead w m).heap.modify g _).size; rw [Array.size_modify]; exact hi)]
      show ((Sort.ahead w m).heap.modify g _)[i]? = _
      rw [Array.getElem?_modify, if_neg (fun e => hne e.symm)]
      rfl
end

end Go.Proofs.Ytkciaafkhpjnaaa
