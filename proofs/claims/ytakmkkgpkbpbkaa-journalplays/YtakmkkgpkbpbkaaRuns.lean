/- Own: what a disk's acts make of it, one behind the other, until one isn't OK. No statement is proved here. -/
import Derived.Test.YtakmkkgpkbpbkaaPages
namespace Go.Proofs.Ytakmkkgpkbpbkaa
open Go.RowKit
set_option linter.unusedVariables false
set_option linter.unusedSimpArgs false

inductive DAct where
  | wr (i : Int) (xs : List Int)
  | fl
def DiskM.one (d : DiskM) : DAct → DiskM × Int
  | .wr i xs => d.write i xs
  | .fl => d.flush
def DiskM.run : List DAct → DiskM → DiskM × Int
  | [], d => (d, 0)
  | a :: l, d => if (d.one a).2 = 0 then DiskM.run l (d.one a).1 else d.one a
theorem DiskM.run_app (a b : List DAct) (d : DiskM) : DiskM.run (a ++ b) d = if (DiskM.run a d).2 = 0 then DiskM.run b (DiskM.run a d).1 else DiskM.run a d := by
  induction a generalizing d with
  | nil => simp [DiskM.run]
  | cons x a ih =>
    by_cases h : (d.one x).2 = 0
    · have e1 : DiskM.run (x :: a) d = DiskM.run a (d.one x).1 := by simp only [DiskM.run, if_pos h]
      have e2 : DiskM.run (x :: a ++ b) d = DiskM.run (a ++ b) (d.one x).1 := by simp only [List.cons_append, DiskM.run, if_pos h]
      rw [e1, e2, ih]
    · have e1 : DiskM.run (x :: a) d = d.one x := by simp only [DiskM.run, if_neg h]
      have e2 : DiskM.run (x :: a ++ b) d = d.one x := by simp only [List.cons_append, DiskM.run, if_neg h]
      rw [e1, e2, if_neg h]
theorem DiskM.run_ok {a : List DAct} {d : DiskM} (b : List DAct) (h : (DiskM.run a d).2 = 0) : DiskM.run (a ++ b) d = DiskM.run b (DiskM.run a d).1 := by rw [DiskM.run_app, if_pos h]
theorem DiskM.run_bad {a : List DAct} {d : DiskM} (b : List DAct) (h : ¬ (DiskM.run a d).2 = 0) : DiskM.run (a ++ b) d = DiskM.run a d := by rw [DiskM.run_app, if_neg h]
theorem DiskM.run_one (x : DAct) (d : DiskM) : DiskM.run [x] d = d.one x := by
  simp only [DiskM.run]
  split
  · rename_i h; rw [← h]
  · rfl
/-- One act more: all went well until now. -/
theorem DiskM.run_next {l : List DAct} {j : Nat} {x : DAct} {d dj : DiskM} (hx : l[j]? = some x) (h : DiskM.run (l.take j) d = (dj, 0)) : DiskM.run (l.take (j + 1)) d = dj.one x := by
  rw [List.take_add_one, hx]
  show DiskM.run (List.take j l ++ [x]) d = _
  rw [DiskM.run_ok _ (by rw [h]), h, DiskM.run_one]
/-- .. and one that didn't: that is all. -/
theorem DiskM.run_stop {l : List DAct} {j : Nat} {x : DAct} {d dj : DiskM} (hx : l[j]? = some x) (h : DiskM.run (l.take j) d = (dj, 0)) (hb : ¬ (dj.one x).2 = 0) : DiskM.run l d = dj.one x := by
  have h1 := DiskM.run_next hx h
  have h2 : l.take (j + 1) ++ l.drop (j + 1) = l := List.take_append_drop _ _
  rw [← h2, DiskM.run_bad _ (by rw [h1]; exact hb), h1]

/-- Room for so many acts more. -/
structure Room (n : Nat) (d : DiskM) : Prop where
  acts : d.acts + n < 4611686018427387904
  left : d.left < 4611686018427387904
  wet : d.wet.length + n ≤ 1000000000000
theorem Room.fits {n : Nat} {d : DiskM} (h : Room n d) : Fits d := ⟨by have := h.acts; omega, h.left, by have := h.wet; omega⟩
theorem Room.less {n m : Nat} {d : DiskM} (h : Room n d) (hm : m ≤ n) : Room m d := ⟨by have := h.acts; omega, h.left, by have := h.wet; omega⟩
theorem DiskM.act_left (d : DiskM) : d.act.left ≤ d.left := by
  unfold DiskM.act
  split
  · exact Nat.le_refl _
  · split
    · exact Nat.le_refl _
    · exact Nat.sub_le _ _
theorem Room.one {n : Nat} {d : DiskM} (h : Room (n + 1) d) (a : DAct) : Room n (d.one a).1 := by
  have h1 := h.acts
  have h2 := h.left
  have h3 := h.wet
  cases a with
  | wr i xs =>
    simp only [DiskM.one, DiskM.write]
    split
    · split
      · exact h.less (by omega)
      · have s := DiskM.act_same ({ d with wet := d.wet ++ [(i.toNat, pad64 xs)] } : DiskM)
        have l := DiskM.act_left ({ d with wet := d.wet ++ [(i.toNat, pad64 xs)] } : DiskM)
        refine ⟨by rw [s.2.2.1]; show d.acts + 1 + n < _; omega, Nat.lt_of_le_of_lt l h2, ?_⟩
        rw [s.2.1]
        simp; omega
    · exact h.less (by omega)
  | fl =>
    simp only [DiskM.one, DiskM.flush]
    have s := DiskM.act_same d
    have l := DiskM.act_left d
    split
    · exact h.less (by omega)
    · split
      · exact ⟨by rw [s.2.2.1]; omega, Nat.lt_of_le_of_lt l h2, by rw [s.2.1]; omega⟩
      · refine ⟨?_, Nat.lt_of_le_of_lt l h2, ?_⟩
        · show d.act.acts + n < _; rw [s.2.2.1]; omega
        · show ([] : List (Nat × List Int)).length + n ≤ _; simp; omega
theorem DiskM.one_len (d : DiskM) (a : DAct) : (d.one a).1.safe.length = d.safe.length := by
  cases a with
  | wr i xs =>
    simp only [DiskM.one, DiskM.write]
    split
    · split
      · rfl
      · rw [(DiskM.act_same _).1]
    · rfl
  | fl =>
    simp only [DiskM.one, DiskM.flush]
    split
    · rfl
    · split
      · rw [(DiskM.act_same _).1]
      · show (keepK d.act.safe d.act.wet _ _).length = _
        rw [keepK_len, (DiskM.act_same _).1]
theorem DiskM.run_len (l : List DAct) (d : DiskM) : (DiskM.run l d).1.safe.length = d.safe.length := by
  induction l generalizing d with
  | nil => rfl
  | cons a l ih =>
    simp only [DiskM.run]
    split
    · rw [ih, DiskM.one_len]
    · exact DiskM.one_len d a
theorem Room.run {l : List DAct} {n : Nat} {d : DiskM} (h : Room (l.length + n) d) : Room n (DiskM.run l d).1 := by
  induction l generalizing d with
  | nil => simpa [DiskM.run] using h
  | cons a l ih =>
    have h' : Room (l.length + n) (d.one a).1 := Room.one (n := l.length + n) (by rw [show l.length + n + 1 = (a :: l).length + n by simp; omega]; exact h) a
    simp only [DiskM.run]
    split
    · exact ih h'
    · exact h'.less (by omega)
/-- The pages where they belong, and a flush. -/
def layA (l : List (Int × List Int)) : List DAct := l.map fun x => .wr (49 + x.1) x.2
end Go.Proofs.Ytakmkkgpkbpbkaa
