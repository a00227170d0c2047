/- Own texts, packed: In. No statement is proved here. -/
import Derived.Test.YtkciaafkhpjnaaaQ20
import Derived.Test.YtkciaafkhpjnaaaQ04
import Derived.Shelf.SlSortCmp.WholeK
import Derived.Lib.SlicesCompact
namespace Go.Proofs.Ytkciaafkhpjnaaa
set_option maxRecDepth 100000
open Go.RowKit
set_option linter.unusedVariables false
set_option linter.unusedSimpArgs false

section
variable {α : Type} [Inhabited α]
theorem row_holds1 {enc : α → Value} {w : World} {base e g n c : Nat} {l : List α} (ho : w.ownsRow base e 1 (.slice (some ⟨g, 0, none⟩) n c) n (l.map enc)) (hn : l.length = n) : Sort.Holds enc w g 0 l.toArray := by
  intro j hj
  rw [List.size_toArray] at hj
  rcases ho.2 with ⟨h, _⟩ | ⟨g', cap, cur, hv, _, hh, hnc, _, hcs, htk⟩
  · cases h
  · cases hv
    refine ⟨?_, frozen_of_row w g (0 + j) cur e hh⟩
    rw [Nat.zero_add, cell_of_row w g j cur e (0, 0) hh]
    have h1 : (l.map enc)[j]? = some (enc l.toArray[j]!) := by simp [hj]
    rw [← htk, List.getElem?_take] at h1
    split at h1
    · rw [← h1]; simp
    · cases h1
theorem putCells_take1 (enc : α → Value) (F : Array α) (cur : Array Value) (h : F.size ≤ cur.size) : (Sort.putCells enc 0 F cur).toList.take F.size = F.toList.map enc ∧ (Sort.putCells enc 0 F cur).size = cur.size := by
  refine ⟨?_, by simp [Sort.putCells]⟩
  refine List.ext_getElem? fun t => ?_
  rw [List.getElem?_take]
  by_cases ht : t < F.size
  · rw [if_pos ht, Array.getElem?_toList, List.getElem?_map, Array.getElem?_toList, Array.getElem?_eq_getElem ht]
    unfold Sort.putCells
    rw [Array.getElem?_mapIdx, Array.getElem?_eq_getElem (by omega)]
    simp [ht]
  · rw [if_neg ht, List.getElem?_eq_none (by simp; omega)]
theorem put_own {enc : α → Value} {w : World} {base e g n c : Nat} {l l' : List α} (ho : w.ownsRow base e 1 (.slice (some ⟨g, 0, none⟩) n c) n (l.map enc)) (hn' : l'.length = n) (n' : Nat) (hn2 : n' ≤ n) (m : Nat) (os : Array Obj) :
    (Sort.grow (Sort.putRow enc (Sort.ahead w m) g 0 l'.toArray) os).ownsRow base e 1 (.slice (some ⟨g, 0, none⟩) n' c) n' ((l'.take n').map enc) ∧ Turn (fun q => q = g) w (Sort.grow (Sort.putRow enc (Sort.ahead w m) g 0 l'.toArray) os) := by
  rcases ho.2 with ⟨h, _⟩ | ⟨g', cap, cur, hv, hb, hh, hnc, hcm, hcs, htk⟩
  · cases h
  · cases hv
    have hgl : g < w.heap.size := (Array.getElem?_eq_some_iff.1 hh).1
    have hle : (l'.toArray).size ≤ cur.size := by rw [List.size_toArray, hn', hcs]; omega
    have hheap : (Sort.grow (Sort.putRow enc (Sort.ahead w m) g 0 l'.toArray) os).heap[g]? = some (.cells (Sort.putCells enc 0 l'.toArray cur) e (0, 0)) := by
      rw [Sort.heap_grow_old _ _ (by show g < ((Sort.ahead w m).heap.modify g _).size; rw [Array.size_modify]; exact hgl)]
      show ((Sort.ahead w m).heap.modify g _)[g]? = _
      rw [Array.getElem?_modify, if_pos rfl]
      show (w.heap[g]?).map _ = _
      rw [hh]
      rfl
    obtain ⟨q1, q2⟩ := putCells_take1 enc l'.toArray cur hle
    refine ⟨⟨by rw [List.length_map, List.length_take]; omega, .inr ⟨g, _, _, rfl, hb, hheap, by omega, hcm, by rw [q2, hcs], ?_⟩⟩, ⟨rfl, rfl, rfl, ?_, ?_⟩⟩
    · rw [List.size_toArray, hn'] at q1
      rw [Nat.mul_one, List.map_take, ← q1, List.take_take, Nat.min_eq_left hn2]
    · show w.heap.size ≤ (Sort.grow _ os).heap.size
      rw [Sort.size_grow]
      show w.heap.size ≤ (w.heap.modify g _).size + _
      rw [Array.size_modify]; omega
    · intro i hi hne
      rw [Sort.heap_grow_old _ _ (by show i < ((Sort.ahead w m).heap.modify g _).size; rw [Array.size_modify]; exact hi)]
      show ((Sort.ahead w m).heap.modify g _)[i]? = _
      rw [Array.getElem?_modify, if_neg (fun e => hne e.symm)]
      rfl
end
/-- Rising numbers, none twice. -/
def Up (l : List Int) : Prop := l.Pairwise (· < ·)
theorem up_ext {l m : List Int} (hl : Up l) (hm : Up m) (h : ∀ x, x ∈ l ↔ x ∈ m) : l = m := sorted_ext (lt := fun a b : Int => a < b) (fun a h => by omega) (fun a b h1 h2 => by omega) hl hm h
theorem compact_up (d : Array Int) (hs : ∀ i j, i ≤ j → j < d.size → d[i]! ≤ d[j]!) : ∀ m, m ≤ d.size → Up (Lib.compactUpTo d m) ∧ ∀ x, x ∈ Lib.compactUpTo d m ↔ ∃ j, j < m ∧ d[j]! = x := by
  intro m
  induction m with
  | zero => intro _; exact ⟨List.Pairwise.nil, fun x => by simp [Lib.compactUpTo]⟩
  | succ m ih =>
    intro hm
    obtain ⟨h1, h2⟩ := ih (by omega)
    rw [Lib.compactUpTo_succ]
    by_cases hk : Lib.keeps d m = true
    · rw [if_pos hk]
      refine ⟨?_, fun x => ?_⟩
      · unfold Up
        rw [List.pairwise_append]
        refine ⟨h1, List.pairwise_singleton _ _, fun a ha b hb => ?_⟩
        rw [List.mem_singleton] at hb
        subst hb
        obtain ⟨j, hj, rfl⟩ := (h2 a).1 ha
        have h3 := hs j (m - 1) (by omega) (by omega)
        have h4 := hs (m - 1) m (by omega) (by omega)
        unfold Lib.keeps at hk
        rw [decide_eq_true_eq] at hk
        rcases hk with hk | hk
        · omega
        · omega
      · rw [List.mem_append, h2, List.mem_singleton]
        constructor
        · rintro (⟨j, hj, e⟩ | e)
          · exact ⟨j, by omega, e⟩
          · exact ⟨m, by omega, e.symm⟩
        · rintro ⟨j, hj, e⟩
          by_cases hjm : j = m
          · subst hjm; exact .inr e.symm
          · exact .inl ⟨j, by omega, e⟩
    · rw [if_neg hk, List.append_nil]
      refine ⟨h1, fun x => ?_⟩
      rw [h2]
      unfold Lib.keeps at hk
      rw [decide_eq_true_eq, not_or] at hk
      have h5 : d[m]! = d[m - 1]! := by
        by_cases e : d[m]! = d[m - 1]!
        · exact e
        · exact absurd e hk.2
      constructor
      · rintro ⟨j, hj, e⟩; exact ⟨j, by omega, e⟩
      · rintro ⟨j, hj, e⟩
        by_cases hjm : j = m
        · subst hjm; exact ⟨j - 1, by omega, by rw [← h5]; exact e⟩
        · exact ⟨j, by omega, e⟩
theorem sortedI (zs : List Int) : (zs.mergeSort fun x y => decide (x ≤ y)).Pairwise (· ≤ ·) := by
  have := List.pairwise_mergeSort (le := fun x y : Int => decide (x ≤ y)) (fun a b c h1 h2 => by simp at *; omega) (fun a b => by simp; omega) zs
  exact this.imp (fun h => by simpa using h)
theorem uniq_up (zs : List Int) : Up (Lib.compact (zs.mergeSort fun x y => decide (x ≤ y))) ∧ ∀ x, x ∈ Lib.compact (zs.mergeSort fun x y => decide (x ≤ y)) ↔ x ∈ zs := by
  obtain ⟨L, hL⟩ : ∃ L, (zs.mergeSort fun x y => decide (x ≤ y)) = L := ⟨_, rfl⟩
  have hs := sortedI zs
  rw [hL] at hs ⊢
  have h := compact_up L.toArray (fun i j hij hj => by
    rw [List.size_toArray] at hj
    by_cases e : i = j
    · subst e; exact Int.le_refl _
    · have := List.pairwise_iff_getElem.1 hs i j (by omega) hj (by omega)
      simp only [List.getElem!_toArray]
      rw [getElem!_pos L i (by omega), getElem!_pos L j hj]
      exact this) L.length (by simp)
  refine ⟨h.1, fun x => ?_⟩
  unfold Lib.compact
  rw [h.2, show x ∈ zs ↔ x ∈ L by rw [← hL]; simp]
  constructor
  · rintro ⟨j, hj, rfl⟩
    simp only [List.getElem!_toArray]
    rw [getElem!_pos L j hj]
    exact List.getElem_mem _
  · intro hx
    obtain ⟨j, hj, rfl⟩ := List.getElem_of_mem hx
    refine ⟨j, hj, ?_⟩
    simp only [List.getElem!_toArray]
    rw [getElem!_pos L j hj]
theorem compact_len (L : List Int) : (Lib.compact L).length ≤ L.length := by
  unfold Lib.compact Lib.compactUpTo
  rw [List.length_map]
  exact Nat.le_trans (List.length_filter_le _ _) (by simp)

end Go.Proofs.Ytkciaafkhpjnaaa
