/- Own contract: slices.Insert of runs. No statement is proved here. -/
import Derived.Test.YtmhdcpkncaghpaaPut
namespace Go.Proofs.Ytmhdcpkncaghpaa
open Go.RowKit
set_option linter.unusedVariables false
set_option linter.unusedSimpArgs false

/-- The cells of runs. -/
def flat : List (Nat × Nat) → List Value
  | [] => []
  | r :: L => .int .i64 (r.1 : Int) :: .int .i64 (r.2 : Int) :: flat L
theorem flat_len (L : List (Nat × Nat)) : (flat L).length = L.length * 2 := by
  induction L with
  | nil => rfl
  | cons r L ih => simp [flat, ih]; omega
theorem flat_app (A B : List (Nat × Nat)) : flat (A ++ B) = flat A ++ flat B := by
  induction A with
  | nil => rfl
  | cons r L ih => simp [flat, ih]
theorem flat_take (L : List (Nat × Nat)) (i : Nat) : flat (L.take i) = (flat L).take (i * 2) := by
  induction L generalizing i with
  | nil => simp [flat]
  | cons r L ih =>
    cases i with
    | zero => simp [flat]
    | succ i => rw [show (i + 1) * 2 = i * 2 + 1 + 1 by omega]; simp [flat, ih]
theorem flat_drop (L : List (Nat × Nat)) (i : Nat) : flat (L.drop i) = (flat L).drop (i * 2) := by
  induction L generalizing i with
  | nil => simp [flat]
  | cons r L ih =>
    cases i with
    | zero => simp [flat]
    | succ i => rw [show (i + 1) * 2 = i * 2 + 1 + 1 by omega]; simp [flat, ih]
theorem flat_one (L : List (Nat × Nat)) : ∀ v ∈ flat L, v.oneCell' = true := by
  induction L with
  | nil => intro v hv; cases hv
  | cons r L ih =>
    intro v hv
    simp only [flat, List.mem_cons] at hv
    rcases hv with rfl | rfl | hv
    · rfl
    · rfl
    · exact ih v hv
theorem flat_get (L : List (Nat × Nat)) (j : Nat) (r : Nat × Nat) (h : L[j]? = some r) : (flat L)[j * 2]? = some (.int .i64 (r.1 : Int)) ∧ (flat L)[j * 2 + 1]? = some (.int .i64 (r.2 : Int)) := by
  induction L generalizing j with
  | nil => cases h
  | cons q L ih =>
    cases j with
    | zero => simp at h; subst h; simp [flat]
    | succ j =>
      have := ih j (by simpa using h)
      rw [show (j + 1) * 2 = j * 2 + 1 + 1 by omega]
      simpa [flat] using this

/-- What insert and replace answer. -/
def ReplPost (w : World) (v : Value) (L' : List (Nat × Nat)) (e : Ending) (w' : World) : Prop :=
  ∃ v', e = .returned v' ∧ w'.ownsRow 0 43 2 v' L'.length (flat L') ∧ Fresh w v v' ∧ Turn (fun k => v.ownBlock = some k) w w'

/-- The runs that go in, as a source. -/
theorem src_of {w : World} {x : Value} {vs : List (Nat × Nat)} (hx : w.ownsRow 0 43 2 x vs.length (flat vs)) : Src Try.prog 2 39 x vs.length (flat vs) w := by
  rcases hx.2 with ⟨rfl, h0⟩ | ⟨g, cap, cur, rfl, _, hg, hnc, hcm, hcs, ht⟩
  · have : vs = [] := List.eq_nil_of_length_eq_zero h0
    subst this
    exact Src.ofNil w Try.underlying39 0
  · exact Src.ofSlice w Try.underlying39 ⟨g, 0, none⟩ _ cap _ (flat_len vs) (hx.cells (g := g) rfl) (flat_one vs)

/-- The pieces, put together. -/
theorem put_shift {c f V : List Value} {i m n : Nat} (hc : c.take (n * 2) = f) (hf : f.length = n * 2) (hV : V.length = m * 2) (hi : i ≤ n) (hroom : (n + m) * 2 ≤ c.length) :
    (put (put c ((i + m) * 2) (f.drop (i * 2))) (i * 2) V).take ((n + m) * 2) = f.take (i * 2) ++ V ++ f.drop (i * 2) := by
  have l1 : (f.drop (i * 2)).length = (n - i) * 2 := by rw [List.length_drop, hf]; omega
  have p1 : (i + m) * 2 + (f.drop (i * 2)).length ≤ c.length := by rw [l1]; omega
  have p2 : i * 2 + V.length ≤ (put c ((i + m) * 2) (f.drop (i * 2))).length := by rw [put_length p1, hV]; omega
  have lt : (f.take (i * 2)).length = i * 2 := by rw [List.length_take, hf]; omega
  apply List.ext_getElem?
  intro k
  rw [List.getElem?_take, put_get p2, put_get p1, l1, hV]
  by_cases h0 : k < (n + m) * 2
  · rw [if_pos h0]
    by_cases h1 : k < i * 2
    · rw [if_pos h1, if_pos (by omega), List.append_assoc, List.getElem?_append_left (by omega), List.getElem?_take, if_pos h1, ← hc, List.getElem?_take, if_pos (by omega)]
    · rw [if_neg h1]
      by_cases h2 : k < i * 2 + m * 2
      · rw [if_pos h2, List.getElem?_append_left (by rw [List.length_append]; omega), List.getElem?_append_right (by omega), lt]
      · rw [if_neg h2, if_neg (by omega), if_pos (by omega), List.getElem?_append_right (by rw [List.length_append]; omega), List.length_append, lt, hV, show k - (i + m) * 2 = k - (i * 2 + m * 2) by omega]
  · rw [if_neg h0, List.getElem?_eq_none (by rw [List.length_append, List.length_append, lt, hV, l1]; omega)]

theorem own_of {w : World} {g cap n : Nat} {c f : List Value} (h : RowAt w g c) (hn : n ≤ cap) (hcm : cap ≤ maxLen) (hcs : c.length = cap * 2) (ht : c.take (n * 2) = f) (hf : f.length = n * 2) : w.ownsRow 0 43 2 (.slice (some ⟨g, 0, none⟩) n cap) n f :=
  ⟨hf, .inr ⟨g, cap, c.toArray, rfl, Nat.zero_le _, h, hn, hcm, by simpa using hcs, by simpa using ht⟩⟩

set_option maxHeartbeats 4000000 in
set_option maxRecDepth 100000 in
/-- At the end. -/
theorem insert_end (w : World) (v x : Value) (L vs : List (Nat × Nat)) (hv : w.ownsRow 0 43 2 v L.length (flat L)) (hx : w.ownsRow 0 43 2 x vs.length (flat vs)) (hm : 0 < vs.length) (hb : L.length + vs.length ≤ 10000) :
    Calls Try.prog 23 #[v, .int .i64 (L.length : Int), x] w (ReplPost w v (L ++ vs)) := by
  obtain ⟨i0, hi0, h2, h3, hz⟩ := info43
  have hxs := hx
  rcases hx.2 with ⟨rfl, h0⟩ | ⟨vb, vc, vcur, rfl, _, hvg, hnc, hcm, hcs, hvt⟩
  · omega
  have e1 : decide ((vs.length : Int) = 0) = false := decide_eq_false (by omega)
  have hcl := hxs.cells (g := vb) rfl
  have hvv := hv
  go_enter Try.func23, Try.ntmps23
  rcases hv.2 with ⟨rfl, h0⟩ | ⟨g, cap, cur, rfl, _, hg, hnc', hcm', hcs', ht⟩
  · have : L = [] := List.eq_nil_of_length_eq_zero h0
    subst this
    go_wp2_with (at_builtin; refine wpList_append_where _ rfl _ _ 39 rfl 0 43 i0 _ 2 16 Try.underlying39 hi0 hz h2 h3 rfl (by decide) _ _ _ rfl hvv _ _ _ _ rfl (flat_len vs) hcl (flat_one vs) (by simp only [maxLen]; omega) (by omega) (Nat.zero_le _) ?_; intro v' w' q1 q2 q3 q4)
    go_ret
    refine ⟨_, rfl, ?_, q3, (Turn.refl _ _).grown q2 (fun k hk _ => hk)⟩
    simpa [flat] using q1
  · go_wp2_with (at_builtin; refine wpList_append_where _ rfl _ _ 39 rfl 0 43 i0 _ 2 16 Try.underlying39 hi0 hz h2 h3 rfl (by decide) _ _ _ rfl hvv _ _ _ _ rfl (flat_len vs) hcl (flat_one vs) (by simp only [maxLen]; omega) (by omega) (Nat.zero_le _) ?_; intro v' w' q1 q2 q3 q4)
    all_goals (
    go_ret
    refine ⟨_, rfl, ?_, q3, (Turn.refl _ _).grown q2 (fun k hk _ => hk)⟩
    rw [flat_app, List.length_append]; exact q1)
end Go.Proofs.Ytmhdcpkncaghpaa
