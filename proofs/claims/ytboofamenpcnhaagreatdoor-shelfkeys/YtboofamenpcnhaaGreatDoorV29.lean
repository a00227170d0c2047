/- Own texts, packed: Q04. -/
import Derived.Test.YtboofamenpcnhaaGreatDoorV28
import Derived.Lib.Overlaps
import Derived.Lib.AppendZerosOnto
import Derived.Shelf.Spec.SlicesInsert
namespace Go.Proofs.YtboofamenpcnhaaGreatDoor
set_option maxRecDepth 100000
open Go.RowKit
set_option linter.unusedVariables false
set_option linter.unusedSimpArgs false
/-- A list with others in the place of some of its values. -/
def put (c : List Value) (o : Nat) (cs : List Value) : List Value := c.take o ++ cs ++ c.drop (o + cs.length)
theorem put_nil (c : List Value) (o : Nat) : put c o [] = c := by simp [put]
theorem put_length {c cs : List Value} {o : Nat} (h : o + cs.length ≤ c.length) : (put c o cs).length = c.length := by
  simp [put]; omega
theorem put_get {c cs : List Value} {o : Nat} (h : o + cs.length ≤ c.length) (k : Nat) : (put c o cs)[k]? = if k < o then c[k]? else if k < o + cs.length then cs[k - o]? else c[k]? := by
  unfold put
  have h1 : (c.take o).length = o := by rw [List.length_take]; omega
  by_cases a : k < o
  · rw [if_pos a, List.append_assoc, List.getElem?_append_left (by omega), List.getElem?_take, if_pos a]
  · rw [if_neg a]
    by_cases b : k < o + cs.length
    · rw [if_pos b, List.getElem?_append_left (by rw [List.length_append]; omega), List.getElem?_append_right (by omega), h1]
    · rw [if_neg b, List.getElem?_append_right (by rw [List.length_append]; omega), List.length_append, h1, List.getElem?_drop]
      congr 1
      omega
/-- A block that is a row of runs. -/
def RowAt (w : World) (g : Nat) (c : List Value) : Prop := w.heap[g]? = some (.cells c.toArray 122 (0, 0))
theorem RowAt.lt {w : World} {g : Nat} {c : List Value} (h : RowAt w g c) : g < w.heap.size := (Array.getElem?_eq_some_iff.1 h).1
theorem RowAt.cell {w : World} {g : Nat} {c : List Value} (h : RowAt w g c) (j : Nat) : w.cell? ⟨g, j, none⟩ = c[j]? := by
  rw [cell_of_row w g j _ 122 (0, 0) h]; simp
theorem RowAt.frozen {w : World} {g : Nat} {c : List Value} (h : RowAt w g c) (j : Nat) : w.frozen? ⟨g, j, none⟩ = false := by
  unfold RowAt at h
  simp [World.frozen?, h]
theorem RowAt.shape {w : World} {g : Nat} {c : List Value} (h : RowAt w g c) : w.shape? g = some (122, c.length) := by
  unfold RowAt at h
  simp [World.shape?, h]
theorem RowAt.set {w : World} {g : Nat} {c : List Value} (h : RowAt w g c) (c' : List Value) : RowAt (w.setRow g c'.toArray) g c' := setRow_heap w g _ _ 122 (0, 0) h
theorem RowAt.other {w : World} {g k : Nat} {c d : List Value} (h : RowAt w k c) (hk : k ≠ g) : RowAt (w.setRow g d.toArray) k c := by
  unfold RowAt
  rw [setRow_other w g k _ hk]
  exact h
theorem RowAt.turn {S : Nat → Prop} {w w' : World} {g : Nat} {c : List Value} (h : RowAt w g c) (t : Turn S w w') (hn : ¬ S g) : RowAt w' g c := by
  unfold RowAt
  rw [t.block g h.lt hn]
  exact h
theorem turn_setRowE {S : Nat → Prop} {a w : World} (h : Turn S a w) {g : Nat} (hg : g < a.heap.size → S g) (c : Array Value) : Turn S a (w.setRow g c) :=
  ⟨h.os, h.tape, h.output, Nat.le_trans h.size (by simp), fun i hi hn => (setRow_other w g i c (by rintro rfl; exact hn (hg hi))).trans (h.block i hi hn)⟩
theorem info43 : ∃ i, Tryz.prog.info? 122 = some i ∧ i.size = 2 ∧ i.bytes = 16 ∧ i.zero = some (.agg #[.int .i64 0, .int .i64 0]) := ⟨_, rfl, rfl, rfl, rfl⟩
theorem copy_row (w : World) (g o dLen dCap sLen : Nat) (x : Value) (c cs : List Value) (ty : TypeId) (hg : RowAt w g c)
    (hlen : (Builtin.lenOf x).run Tryz.prog w = .ok sLen w) (hf : (Builtin.firstCells 2 (Nat.min sLen dLen) x).run Tryz.prog w = .ok cs.toArray w)
    (hfit : o + cs.length ≤ c.length) (h1 : ∀ v ∈ cs, v.oneCell' = true) :
    (Builtin.copy_ #[118, 118] ty #[.slice (some ⟨g, o, none⟩) dLen dCap, x]).run Tryz.prog w = .ok (goInt (Nat.min sLen dLen)) (w.setRow g (put c o cs).toArray) := by
  have hst := run_storeCells_at Tryz.prog g o 122 cs 0 c.toArray w hg (by simpa using hfit) h1
  obtain ⟨i, hi, h2, _, _⟩ := info43
  have hu : Tryz.prog.underlying 118 = some (.slice 122) := Tryz.underlying118
  simp only [Nat.add_zero] at hst
  simp [Builtin.copy_, run_underlying hu, hlen, sizeOf, typeInfo, hi, h2, hf, hst, put]
theorem zeros_list (n : Nat) : (Builtin.zeroCells (#[.int .i64 0, .int .i64 0] : Array Value) n).toList = List.replicate (n * 2) (.int .i64 0) := by
  apply List.ext_getElem?
  intro k
  simp only [Builtin.zeroCells]
  by_cases h : k < n * 2
  · have : k % 2 = 0 ∨ k % 2 = 1 := by omega
    rcases this with e | e <;> simp [h, e]
  · simp [h]
theorem clear_row (w : World) (g o n nc : Nat) (c : List Value) (ty : TypeId) (hg : RowAt w g c) (hn : 0 < n) (hfit : o + n * 2 ≤ c.length) :
    (Builtin.clear_ #[118] ty #[.slice (some ⟨g, o, none⟩) n nc]).run Tryz.prog w = .ok (.tuple #[]) (w.setRow g (put c o (List.replicate (n * 2) (.int .i64 0))).toArray) := by
  have hst := run_storeCells_at Tryz.prog g o 122 (List.replicate (n * 2) (.int .i64 0)) 0 c.toArray w hg (by simpa using hfit) (by intro v hv; rw [List.eq_of_mem_replicate hv]; rfl)
  obtain ⟨i, hi, h2, _, hz⟩ := info43
  have hu : Tryz.prog.underlying 118 = some (.slice 122) := Tryz.underlying118
  obtain ⟨m, rfl⟩ : ∃ m, n = m + 1 := ⟨n - 1, by omega⟩
  simp only [Nat.add_zero] at hst
  simp [Builtin.clear_, run_underlying hu, zeroValue, typeInfo, hi, hz, Value.cells, zeros_list, hst, put]
theorem clear_none (w : World) (a : Option Addr) (nc : Nat) (ty : TypeId) :
    (Builtin.clear_ #[118] ty #[.slice a 0 nc]).run Tryz.prog w = .ok (.tuple #[]) w := by
  have hu : Tryz.prog.underlying 118 = some (.slice 122) := Tryz.underlying118
  cases a <;> simp [Builtin.clear_, run_underlying hu]
theorem append_room (w : World) (g sLen sCap m : Nat) (x : Value) (c V : List Value) (ty : TypeId) (hg : RowAt w g c) (hx : Src Tryz.prog 2 118 x m V w) (hroom : sLen + m ≤ sCap) (hfit : sLen * 2 + V.length ≤ c.length) :
    (Builtin.append_ #[118, 118] ty #[.slice (some ⟨g, 0, none⟩) sLen sCap, x]).run Tryz.prog w = .ok (.slice (some ⟨g, 0, none⟩) (sLen + m) sCap) (w.setRow g (put c (sLen * 2) V).toArray) := by
  have hst := run_storeCells_at Tryz.prog g (sLen * 2) 122 V 0 c.toArray w hg (by simpa using hfit) hx.one
  obtain ⟨i, hi, h2, _, _⟩ := info43
  have hu : Tryz.prog.underlying 118 = some (.slice 122) := Tryz.underlying118
  simp only [Nat.add_zero] at hst
  simp [Builtin.append_, run_underlying hu, sizeOf, typeInfo, hi, h2, hx.len, hroom, hx.cells, Addr.add_lit, hst, put]
/-- append(s[:i], make(S, k)...) where there is no room. -/
theorem append_make (w : World) (g sLen sCap k : Nat) (f : List Value) (ty : TypeId) (hf : f.length = sLen * 2) (hold : ∀ j u, f[j]? = some u → w.cell? ((⟨g, 0, none⟩ : Addr).add j) = some u)
    (h0 : 0 < k) (hg : sCap < sLen + k) (hb : sLen + k ≤ 100000) :
    ∃ cap r, sLen + k ≤ cap ∧ cap ≤ maxLen ∧ r.length = (cap - sLen) * 2 ∧ (Builtin.append_ #[118, 3] ty #[.slice (some ⟨g, 0, none⟩) sLen sCap, .int .i64 (k : Int)]).run Tryz.prog w = .ok (.slice (some ⟨w.heap.size, 0, none⟩) (sLen + k) cap) (w.drew.alloc (.cells (f ++ r).toArray 122)) := by
  obtain ⟨i, hi, h2, h3, hz⟩ := info43
  have hu : Tryz.prog.underlying 118 = some (.slice 122) := Tryz.underlying118
  have hu3 : Tryz.prog.underlying 3 = some (.int .i64) := Tryz.underlying3
  have h := Lib.run_append_grow_zeros (P := Tryz.prog) w 118 3 ty 122 i _ .i64 .i64 hu hu3 hi hz (some ⟨g, 0, none⟩) sLen sCap f (by rw [h2]; exact run_firstCells_some w.drew 2 sLen ⟨g, 0, none⟩ sLen sCap f hf (by simpa using hold)) k h0 (by omega) hg (by omega) (by rw [h3]; omega)
    (by rw [h3]; exact growslice_fits (by omega) (by omega))
  have hge := grownCap_ge w (sLen + k) sCap 122
  refine ⟨_, (Builtin.zeroCells (#[.int .i64 0, .int .i64 0] : Array Value) k).toList ++ (Builtin.zeroCells (#[.int .i64 0, .int .i64 0] : Array Value) (grownCap w (sLen + k) sCap 122 - (sLen + k))).toList, hge, grownCap_le_maxLen w _ _ _ (by simp only [maxLen]; omega), ?_, ?_⟩
  · rw [zeros_list, zeros_list]; simp; omega
  · rw [h]
    congr 3
    apply Array.ext'
    simp [Value.cells]
end Go.Proofs.YtboofamenpcnhaaGreatDoor
namespace Go.Proofs.YtboofamenpcnhaaGreatDoor
set_option maxRecDepth 100000
open Go.RowKit
set_option linter.unusedVariables false
set_option linter.unusedSimpArgs false
/-- The cells of runs. -/
def flat : List (Nat × Nat) → List Value
  | [] => []
  | r :: L => .int .i64 (r.1 : Int) :: .int .i64 (r.2 : Int) :: flat L
theorem flat_len (L : List (Nat × Nat)) : (flat L).length = L.length * 2 := by
  induction L with
  | nil => rfl
  | cons r L ih => simp [flat, ih]; omega
theorem flat_app (A B : List (Nat × Nat)) : flat (A ++ B) = flat A ++ flat B := by
  induction A with
  | nil => rfl
  | cons r L ih => simp [flat, ih]
theorem flat_take (L : List (Nat × Nat)) (i : Nat) : flat (L.take i) = (flat L).take (i * 2) := by
  induction L generalizing i with
  | nil => simp [flat]
  | cons r L ih =>
    cases i with
    | zero => simp [flat]
    | succ i => rw [show (i + 1) * 2 = i * 2 + 1 + 1 by omega]; simp [flat, ih]
theorem flat_drop (L : List (Nat × Nat)) (i : Nat) : flat (L.drop i) = (flat L).drop (i * 2) := by
  induction L generalizing i with
  | nil => simp [flat]
  | cons r L ih =>
    cases i with
    | zero => simp [flat]
    | succ i => rw [show (i + 1) * 2 = i * 2 + 1 + 1 by omega]; simp [flat, ih]
theorem flat_one (L : List (Nat × Nat)) : ∀ v ∈ flat L, v.oneCell' = true := by
  induction L with
  | nil => intro v hv; cases hv
  | cons r L ih =>
    intro v hv
    simp only [flat, List.mem_cons] at hv
    rcases hv with rfl | rfl | hv
    · rfl
    · rfl
    · exact ih v hv
theorem flat_get (L : List (Nat × Nat)) (j : Nat) (r : Nat × Nat) (h : L[j]? = some r) : (flat L)[j * 2]? = some (.int .i64 (r.1 : Int)) ∧ (flat L)[j * 2 + 1]? = some (.int .i64 (r.2 : Int)) := by
  induction L generalizing j with
  | nil => cases h
  | cons q L ih =>
    cases j with
    | zero => simp at h; subst h; simp [flat]
    | succ j =>
      have := ih j (by simpa using h)
      rw [show (j + 1) * 2 = j * 2 + 1 + 1 by omega]
      simpa [flat] using this
/-- What insert and replace answer. -/
def ReplPost (w : World) (v : Value) (L' : List (Nat × Nat)) (e : Ending) (w' : World) : Prop :=
  ∃ v', e = .returned v' ∧ w'.ownsRow 0 122 2 v' L'.length (flat L') ∧ Fresh w v v' ∧ Turn (fun k => v.ownBlock = some k) w w'
/-- The runs that go in, as a source. -/
theorem src_of {w : World} {x : Value} {vs : List (Nat × Nat)} (hx : w.ownsRow 0 122 2 x vs.length (flat vs)) : Src Tryz.prog 2 118 x vs.length (flat vs) w := by
  rcases hx.2 with ⟨rfl, h0⟩ | ⟨g, cap, cur, rfl, _, hg, hnc, hcm, hcs, ht⟩
  · have : vs = [] := List.eq_nil_of_length_eq_zero h0
    subst this
    exact Src.ofNil w Tryz.underlying118 0
  · exact Src.ofSlice w Tryz.underlying118 ⟨g, 0, none⟩ _ cap _ (flat_len vs) (hx.cells (g := g) rfl) (flat_one vs)
theorem own_of {w : World} {g cap n : Nat} {c f : List Value} (h : RowAt w g c) (hn : n ≤ cap) (hcm : cap ≤ maxLen) (hcs : c.length = cap * 2) (ht : c.take (n * 2) = f) (hf : f.length = n * 2) : w.ownsRow 0 122 2 (.slice (some ⟨g, 0, none⟩) n cap) n f :=
  ⟨hf, .inr ⟨g, cap, c.toArray, rfl, Nat.zero_le _, h, hn, hcm, by simpa using hcs, by simpa using ht⟩⟩
set_option maxHeartbeats 4000000 in
set_option maxRecDepth 100000 in
/-- At the end. -/
theorem insert_end (w : World) (v x : Value) (L vs : List (Nat × Nat)) (hv : w.ownsRow 0 122 2 v L.length (flat L)) (hx : w.ownsRow 0 122 2 x vs.length (flat vs)) (hm : 0 < vs.length) (hb : L.length + vs.length ≤ 10000) :
    Calls Tryz.prog 111 #[v, .int .i64 (L.length : Int), x] w (ReplPost w v (L ++ vs)) := by
  obtain ⟨i0, hi0, h2, h3, hz⟩ := info43
  have hxs := hx
  rcases hx.2 with ⟨rfl, h0⟩ | ⟨vb, vc, vcur, rfl, _, hvg, hnc, hcm, hcs, hvt⟩
  · omega
  have e1 : decide ((vs.length : Int) = 0) = false := decide_eq_false (by omega)
  have hcl := hxs.cells (g := vb) rfl
  have hvv := hv
  go_enter Tryz.func111, Tryz.ntmps111
  rcases hv.2 with ⟨rfl, h0⟩ | ⟨g, cap, cur, rfl, _, hg, hnc', hcm', hcs', ht⟩
  · have : L = [] := List.eq_nil_of_length_eq_zero h0
    subst this
    go_wp2_with (at_builtin; refine wpList_append_where _ rfl _ _ 118 rfl 0 122 i0 _ 2 16 Tryz.underlying118 hi0 hz h2 h3 rfl (by decide) _ _ _ rfl hvv _ _ _ _ rfl (flat_len vs) hcl (flat_one vs) (by simp only [maxLen]; omega) (by omega) (Nat.zero_le _) ?_; intro v' w' q1 q2 q3 q4)
    go_ret
    refine ⟨_, rfl, ?_, q3, (Turn.refl _ _).grown q2 (fun k hk _ => hk)⟩
    simpa [flat] using q1
  · go_wp2_with (at_builtin; refine wpList_append_where _ rfl _ _ 118 rfl 0 122 i0 _ 2 16 Tryz.underlying118 hi0 hz h2 h3 rfl (by decide) _ _ _ rfl hvv _ _ _ _ rfl (flat_len vs) hcl (flat_one vs) (by simp only [maxLen]; omega) (by omega) (Nat.zero_le _) ?_; intro v' w' q1 q2 q3 q4)
    all_goals (
    go_ret
    refine ⟨_, rfl, ?_, q3, (Turn.refl _ _).grown q2 (fun k hk _ => hk)⟩
    rw [flat_app, List.length_append]; exact q1)
end Go.Proofs.YtboofamenpcnhaaGreatDoor
