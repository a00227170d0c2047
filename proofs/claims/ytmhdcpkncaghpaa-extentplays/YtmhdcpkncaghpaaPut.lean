/- Own: what copy, clear and append make of a row of runs (two cells each). No statement is proved here. -/
import Derived.Test.YtmhdcpkncaghpaaStart
import Derived.Lib.Overlaps
import Derived.Lib.AppendZerosOnto
import Derived.Shelf.Spec.SlicesInsert
namespace Go.Proofs.Ytmhdcpkncaghpaa
open Go.RowKit
set_option linter.unusedVariables false
set_option linter.unusedSimpArgs false

/-- A list with others in the place of some of its values. -/
def put (c : List Value) (o : Nat) (cs : List Value) : List Value := c.take o ++ cs ++ c.drop (o + cs.length)
theorem put_nil (c : List Value) (o : Nat) : put c o [] = c := by simp [put]
theorem put_length {c cs : List Value} {o : Nat} (h : o + cs.length ≤ c.length) : (put c o cs).length = c.length := by
  simp [put]; omega
theorem put_get {c cs : List Value} {o : Nat} (h : o + cs.length ≤ c.length) (k : Nat) : (put c o cs)[k]? = if k < o then c[k]? else if k < o + cs.length then cs[k - o]? else c[k]? := by
  unfold put
  have h1 : (c.take o).length = o := by rw [List.length_take]; omega
  by_cases a : k < o
  · rw [if_pos a, List.append_assoc, List.getElem?_append_left (by omega), List.getElem?_take, if_pos a]
  · rw [if_neg a]
    by_cases b : k < o + cs.length
    · rw [if_pos b, List.getElem?_append_left (by rw [List.length_append]; omega), List.getElem?_append_right (by omega), h1]
    · rw [if_neg b, List.getElem?_append_right (by rw [List.length_append]; omega), List.length_append, h1, List.getElem?_drop]
      congr 1
      omega
/-- A block that is a row of runs. -/
def RowAt (w : World) (g : Nat) (c : List Value) : Prop := w.heap[g]? = some (.cells c.toArray 43 (0, 0))
theorem RowAt.lt {w : World} {g : Nat} {c : List Value} (h : RowAt w g c) : g < w.heap.size := (Array.getElem?_eq_some_iff.1 h).1
theorem RowAt.cell {w : World} {g : Nat} {c : List Value} (h : RowAt w g c) (j : Nat) : w.cell? ⟨g, j, none⟩ = c[j]? := by
  rw [cell_of_row w g j _ 43 (0, 0) h]; simp
theorem RowAt.cellA {w : World} {g : Nat} {c : List Value} (h : RowAt w g c) (o j : Nat) : w.cell? ((⟨g, o, none⟩ : Addr).add j) = c[o + j]? := by
  rw [Addr.add_lit]; exact h.cell _
theorem RowAt.frozen {w : World} {g : Nat} {c : List Value} (h : RowAt w g c) (j : Nat) : w.frozen? ⟨g, j, none⟩ = false := by
  unfold RowAt at h
  simp [World.frozen?, h]
theorem RowAt.shape {w : World} {g : Nat} {c : List Value} (h : RowAt w g c) : w.shape? g = some (43, c.length) := by
  unfold RowAt at h
  simp [World.shape?, h]
theorem RowAt.set {w : World} {g : Nat} {c : List Value} (h : RowAt w g c) (c' : List Value) : RowAt (w.setRow g c'.toArray) g c' := setRow_heap w g _ _ 43 (0, 0) h
theorem RowAt.other {w : World} {g k : Nat} {c d : List Value} (h : RowAt w k c) (hk : k ≠ g) : RowAt (w.setRow g d.toArray) k c := by
  unfold RowAt
  rw [setRow_other w g k _ hk]
  exact h
theorem RowAt.turn {S : Nat → Prop} {w w' : World} {g : Nat} {c : List Value} (h : RowAt w g c) (t : Turn S w w') (hn : ¬ S g) : RowAt w' g c := by
  unfold RowAt
  rw [t.block g h.lt hn]
  exact h
theorem turn_setRow {S : Nat → Prop} {a w : World} (h : Turn S a w) {g : Nat} (hg : g < a.heap.size → S g) (c : Array Value) : Turn S a (w.setRow g c) :=
  ⟨h.os, h.tape, h.output, Nat.le_trans h.size (by simp), fun i hi hn => (setRow_other w g i c (by rintro rfl; exact hn (hg hi))).trans (h.block i hi hn)⟩

theorem info43 : ∃ i, Try.prog.info? 43 = some i ∧ i.size = 2 ∧ i.bytes = 16 ∧ i.zero = some (.agg #[.int .i64 0, .int .i64 0]) := ⟨_, rfl, rfl, rfl, rfl⟩

theorem copy_row (w : World) (g o dLen dCap sLen : Nat) (x : Value) (c cs : List Value) (ty : TypeId) (hg : RowAt w g c)
    (hlen : (Builtin.lenOf x).run Try.prog w = .ok sLen w) (hf : (Builtin.firstCells 2 (Nat.min sLen dLen) x).run Try.prog w = .ok cs.toArray w)
    (hfit : o + cs.length ≤ c.length) (h1 : ∀ v ∈ cs, v.oneCell' = true) :
    (Builtin.copy_ #[39, 39] ty #[.slice (some ⟨g, o, none⟩) dLen dCap, x]).run Try.prog w = .ok (goInt (Nat.min sLen dLen)) (w.setRow g (put c o cs).toArray) := by
  have hst := run_storeCells_at Try.prog g o 43 cs 0 c.toArray w hg (by simpa using hfit) h1
  obtain ⟨i, hi, h2, _, _⟩ := info43
  have hu : Try.prog.underlying 39 = some (.slice 43) := Try.underlying39
  simp only [Nat.add_zero] at hst
  simp [Builtin.copy_, run_underlying hu, hlen, sizeOf, typeInfo, hi, h2, hf, hst, put]

theorem zeros_list (n : Nat) : (Builtin.zeroCells (#[.int .i64 0, .int .i64 0] : Array Value) n).toList = List.replicate (n * 2) (.int .i64 0) := by
  apply List.ext_getElem?
  intro k
  simp only [Builtin.zeroCells]
  by_cases h : k < n * 2
  · have : k % 2 = 0 ∨ k % 2 = 1 := by omega
    rcases this with e | e <;> simp [h, e]
  · simp [h]

theorem clear_row (w : World) (g o n nc : Nat) (c : List Value) (ty : TypeId) (hg : RowAt w g c) (hn : 0 < n) (hfit : o + n * 2 ≤ c.length) :
    (Builtin.clear_ #[39] ty #[.slice (some ⟨g, o, none⟩) n nc]).run Try.prog w = .ok (.tuple #[]) (w.setRow g (put c o (List.replicate (n * 2) (.int .i64 0))).toArray) := by
  have hst := run_storeCells_at Try.prog g o 43 (List.replicate (n * 2) (.int .i64 0)) 0 c.toArray w hg (by simpa using hfit) (by intro v hv; rw [List.eq_of_mem_replicate hv]; rfl)
  obtain ⟨i, hi, h2, _, hz⟩ := info43
  have hu : Try.prog.underlying 39 = some (.slice 43) := Try.underlying39
  obtain ⟨m, rfl⟩ : ∃ m, n = m + 1 := ⟨n - 1, by omega⟩
  simp only [Nat.add_zero] at hst
  simp [Builtin.clear_, run_underlying hu, zeroValue, typeInfo, hi, hz, Value.cells, zeros_list, hst, put]
theorem clear_none (w : World) (a : Option Addr) (nc : Nat) (ty : TypeId) :
    (Builtin.clear_ #[39] ty #[.slice a 0 nc]).run Try.prog w = .ok (.tuple #[]) w := by
  have hu : Try.prog.underlying 39 = some (.slice 43) := Try.underlying39
  cases a <;> simp [Builtin.clear_, run_underlying hu]

theorem append_room (w : World) (g sLen sCap m : Nat) (x : Value) (c V : List Value) (ty : TypeId) (hg : RowAt w g c) (hx : Src Try.prog 2 39 x m V w) (hroom : sLen + m ≤ sCap) (hfit : sLen * 2 + V.length ≤ c.length) :
    (Builtin.append_ #[39, 39] ty #[.slice (some ⟨g, 0, none⟩) sLen sCap, x]).run Try.prog w = .ok (.slice (some ⟨g, 0, none⟩) (sLen + m) sCap) (w.setRow g (put c (sLen * 2) V).toArray) := by
  have hst := run_storeCells_at Try.prog g (sLen * 2) 43 V 0 c.toArray w hg (by simpa using hfit) hx.one
  obtain ⟨i, hi, h2, _, _⟩ := info43
  have hu : Try.prog.underlying 39 = some (.slice 43) := Try.underlying39
  simp only [Nat.add_zero] at hst
  simp [Builtin.append_, run_underlying hu, sizeOf, typeInfo, hi, h2, hx.len, hroom, hx.cells, Addr.add_lit, hst, put]

/-- append(s[:i], make(S, k)...) where there is no room. -/
theorem append_make (w : World) (g sLen sCap k : Nat) (f : List Value) (ty : TypeId) (hf : f.length = sLen * 2) (hold : ∀ j u, f[j]? = some u → w.cell? ((⟨g, 0, none⟩ : Addr).add j) = some u)
    (h0 : 0 < k) (hg : sCap < sLen + k) (hb : sLen + k ≤ 100000) :
    ∃ cap r, sLen + k ≤ cap ∧ cap ≤ maxLen ∧ r.length = (cap - sLen) * 2 ∧ (Builtin.append_ #[39, 3] ty #[.slice (some ⟨g, 0, none⟩) sLen sCap, .int .i64 (k : Int)]).run Try.prog w = .ok (.slice (some ⟨w.heap.size, 0, none⟩) (sLen + k) cap) (w.drew.alloc (.cells (f ++ r).toArray 43)) := by
  obtain ⟨i, hi, h2, h3, hz⟩ := info43
  have hu : Try.prog.underlying 39 = some (.slice 43) := Try.underlying39
  have hu3 : Try.prog.underlying 3 = some (.int .i64) := Try.underlying3
  have h := Lib.run_append_grow_zeros (P := Try.prog) w 39 3 ty 43 i _ .i64 .i64 hu hu3 hi hz (some ⟨g, 0, none⟩) sLen sCap f (by rw [h2]; exact run_firstCells_some w.drew 2 sLen ⟨g, 0, none⟩ sLen sCap f hf (by simpa using hold)) k h0 (by omega) hg (by omega) (by rw [h3]; omega)
    (by rw [h3]; exact growslice_fits (by omega) (by omega))
  have hge := grownCap_ge w (sLen + k) sCap 43
  refine ⟨_, (Builtin.zeroCells (#[.int .i64 0, .int .i64 0] : Array Value) k).toList ++ (Builtin.zeroCells (#[.int .i64 0, .int .i64 0] : Array Value) (grownCap w (sLen + k) sCap 43 - (sLen + k))).toList, hge, grownCap_le_maxLen w _ _ _ (by simp only [maxLen]; omega), ?_, ?_⟩
  · rw [zeros_list, zeros_list]; simp; omega
  · rw [h]
    congr 3
    apply Array.ext'
    simp [Value.cells]

end Go.Proofs.Ytmhdcpkncaghpaa
