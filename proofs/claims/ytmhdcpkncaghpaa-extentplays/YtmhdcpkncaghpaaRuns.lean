/- Own: rising runs and what they take, without any program. No statement is proved here. -/
import Derived.Test.YtmhdcpkncaghpaaMap
namespace Go.Proofs.Ytmhdcpkncaghpaa
open Go.RowKit
set_option linter.unusedVariables false
set_option linter.unusedSimpArgs false

/-- Rising, none empty, a free place between any two, from one place on. -/
def Good (P : Nat) : Nat → List (Nat × Nat) → Prop
  | _, [] => True
  | lo, r :: L => lo ≤ r.1 ∧ r.1 < r.2 ∧ r.2 ≤ P ∧ Good P (r.2 + 1) L
def inR (r : Nat × Nat) (p : Nat) : Bool := decide (r.1 ≤ p ∧ p < r.2)
def usedB (L : List (Nat × Nat)) (p : Nat) : Bool := L.any (inR · p)
def nxt : Nat → List (Nat × Nat) → Nat
  | lo, [] => lo
  | _, r :: L => nxt (r.2 + 1) L

theorem inR_true {r : Nat × Nat} {p : Nat} (h : r.1 ≤ p) (h2 : p < r.2) : inR r p = true := decide_eq_true ⟨h, h2⟩
theorem inR_false {r : Nat × Nat} {p : Nat} (h : p < r.1 ∨ r.2 ≤ p) : inR r p = false := decide_eq_false (by omega)
theorem used_nil (p : Nat) : usedB [] p = false := rfl
theorem used_cons (r : Nat × Nat) (L : List (Nat × Nat)) (p : Nat) : usedB (r :: L) p = (inR r p || usedB L p) := rfl
theorem used_app (A B : List (Nat × Nat)) (p : Nat) : usedB (A ++ B) p = (usedB A p || usedB B p) := by simp [usedB]
theorem good_mono {P lo lo' : Nat} {L : List (Nat × Nat)} (h : Good P lo L) (hl : lo' ≤ lo) : Good P lo' L := by
  cases L with
  | nil => trivial
  | cons r L => exact ⟨Nat.le_trans hl h.1, h.2⟩
theorem good_app (P : Nat) (A B : List (Nat × Nat)) : ∀ lo, Good P lo (A ++ B) ↔ Good P lo A ∧ Good P (nxt lo A) B := by
  induction A with
  | nil => intro lo; simp [Good, nxt]
  | cons r A ih => intro lo; simp only [List.cons_append, Good, nxt, ih]; constructor <;> intro h <;> simp_all
theorem nxt_app (lo : Nat) (A B : List (Nat × Nat)) : nxt lo (A ++ B) = nxt (nxt lo A) B := by
  induction A generalizing lo with
  | nil => rfl
  | cons r A ih => simp only [List.cons_append, nxt, ih]
theorem nxt_last (lo : Nat) (A : List (Nat × Nat)) (q : Nat × Nat) : nxt lo (A ++ [q]) = q.2 + 1 := by rw [nxt_app]; rfl
theorem good_mem {P lo : Nat} {L : List (Nat × Nat)} (h : Good P lo L) : ∀ r ∈ L, lo ≤ r.1 ∧ r.1 < r.2 ∧ r.2 ≤ P := by
  induction L generalizing lo with
  | nil => intro r hr; cases hr
  | cons q L ih =>
    obtain ⟨h1, h2, h3, h4⟩ := h
    intro r hr
    rcases List.mem_cons.1 hr with rfl | hr
    · exact ⟨h1, h2, h3⟩
    · have := ih h4 r hr; omega
/-- What is ahead of a place, and what isn't. -/
theorem good_split {P : Nat} (at' : Int) : ∀ {L : List (Nat × Nat)} {lo : Nat}, Good P lo L → ∃ A B, L = A ++ B ∧ (∀ r ∈ A, (r.2 : Int) ≤ at') ∧ (∀ r ∈ B, at' < (r.2 : Int))
  | [], _, _ => ⟨[], [], rfl, by simp, by simp⟩
  | r :: L, lo, h => by
    by_cases hr : (r.2 : Int) ≤ at'
    · obtain ⟨A, B, e, h1, h2⟩ := good_split at' h.2.2.2
      refine ⟨r :: A, B, by rw [e]; rfl, ?_, h2⟩
      intro q hq
      rcases List.mem_cons.1 hq with rfl | hq
      · exact hr
      · exact h1 q hq
    · refine ⟨[], r :: L, rfl, by simp, ?_⟩
      intro q hq
      rcases List.mem_cons.1 hq with rfl | hq
      · omega
      · have := good_mem h.2.2.2 q hq; omega
theorem good_len {P lo : Nat} {L : List (Nat × Nat)} (h : Good P lo L) : L.length + lo ≤ P + 1 ∨ L = [] := by
  induction L generalizing lo with
  | nil => exact .inr rfl
  | cons q L ih =>
    obtain ⟨h1, h2, h3, h4⟩ := h
    left
    rcases ih h4 with h | rfl
    · simp; omega
    · simp; omega
theorem good_len0 {P : Nat} {L : List (Nat × Nat)} (h : Good P 0 L) : L.length ≤ P + 1 := by
  rcases good_len h with h | rfl
  · omega
  · simp
theorem used_lo {P lo : Nat} {L : List (Nat × Nat)} (h : Good P lo L) {p : Nat} (hp : p < lo) : usedB L p = false := by
  rw [usedB, List.any_eq_false]
  intro r hr
  have := good_mem h r hr
  rw [inR_false (by omega)]; simp
theorem used_hi {P lo : Nat} {L : List (Nat × Nat)} (h : Good P lo L) {p : Nat} (hp : P ≤ p) : usedB L p = false := by
  rw [usedB, List.any_eq_false]
  intro r hr
  have := good_mem h r hr
  rw [inR_false (by omega)]; simp
theorem used_ends {L : List (Nat × Nat)} {a p : Nat} (h : ∀ r ∈ L, (r.2 : Int) ≤ (a : Int)) (hp : a ≤ p) : usedB L p = false := by
  rw [usedB, List.any_eq_false]
  intro r hr
  have := h r hr
  rw [inR_false (by omega)]; simp

/-- What is left where it touches, and how far it goes. -/
def lftN (A : List (Nat × Nat)) (a : Nat) : Nat := match A.getLast? with | some q => if q.2 = a then A.length - 1 else A.length | none => A.length
def lftA (A : List (Nat × Nat)) (a : Nat) : Nat := match A.getLast? with | some q => if q.2 = a then q.1 else a | none => a
def rgtN (B : List (Nat × Nat)) (e : Nat) : Nat := match B with | s :: _ => if s.1 = e then 1 else 0 | [] => 0
def rgtE (B : List (Nat × Nat)) (e : Nat) : Nat := match B with | s :: _ => if s.1 = e then s.2 else e | [] => e
def glue (A B : List (Nat × Nat)) (a e : Nat) : List (Nat × Nat) := (A ++ B).take (lftN A a) ++ [(lftA A a, rgtE B e)] ++ (A ++ B).drop (A.length + rgtN B e)

/-- The left side by cases. -/
theorem lft_cases (A : List (Nat × Nat)) (a : Nat) : (lftN A a = A.length ∧ lftA A a = a ∧ ∀ q, A.getLast? = some q → q.2 ≠ a) ∨ ∃ A0 q, A = A0 ++ [q] ∧ q.2 = a ∧ lftN A a = A0.length ∧ lftA A a = q.1 := by
  unfold lftN lftA
  cases h : A.getLast? with
  | none => left; simp
  | some q =>
    obtain ⟨A0, rfl⟩ := List.getLast?_eq_some_iff.1 h
    by_cases e : q.2 = a
    · right; exact ⟨A0, q, rfl, e, by simp [e], by simp [e]⟩
    · left; simp [e]
theorem rgt_cases (B : List (Nat × Nat)) (e : Nat) : (rgtN B e = 0 ∧ rgtE B e = e ∧ ∀ s B0, B = s :: B0 → s.1 ≠ e) ∨ ∃ s B0, B = s :: B0 ∧ s.1 = e ∧ rgtN B e = 1 ∧ rgtE B e = s.2 := by
  unfold rgtN rgtE
  cases B with
  | nil => left; simp
  | cons s B0 =>
    by_cases h : s.1 = e
    · right; exact ⟨s, B0, rfl, h, by simp [h], by simp [h]⟩
    · left; refine ⟨by simp [h], by simp [h], ?_⟩
      rintro s' B' ⟨rfl, rfl⟩
      exact h

theorem tk_mid (A0 B : List (Nat × Nat)) (q : Nat × Nat) : (A0 ++ [q] ++ B).take A0.length = A0 := by rw [List.append_assoc, List.take_left' rfl]
theorem tk_all (A B : List (Nat × Nat)) : (A ++ B).take A.length = A := List.take_left' rfl
theorem dr_0 (A B : List (Nat × Nat)) : (A ++ B).drop (A.length + 0) = B := List.drop_left' rfl
theorem dr_1 (A B0 : List (Nat × Nat)) (s : Nat × Nat) : (A ++ s :: B0).drop (A.length + 1) = B0 := by rw [← List.drop_drop, List.drop_left' rfl]; rfl
theorem glue_good {P : Nat} {A B : List (Nat × Nat)} {a e : Nat} (h : Good P 0 (A ++ B)) (hA : ∀ r ∈ A, (r.2 : Int) ≤ (a : Int)) (hB : ∀ s B0, B = s :: B0 → e ≤ s.1) (hae : a < e) (heP : e ≤ P) :
    Good P 0 (glue A B a e) ∧ ∀ p, usedB (glue A B a e) p = (usedB (A ++ B) p || inR (a, e) p) := by
  obtain ⟨gA, gB⟩ := (good_app P A B 0).1 h
  have R : ∃ X Y s2, (X ++ [(lftA A a, rgtE B e)] ++ Y) = glue A B a e ∧ Good P 0 X ∧ nxt 0 X ≤ lftA A a ∧ lftA A a ≤ a ∧ e ≤ rgtE B e ∧ rgtE B e ≤ P ∧ Good P (rgtE B e + 1) Y ∧
      (∀ p, (usedB X p || inR (lftA A a, a) p) = usedB A p) ∧ (∀ p, (inR (e, rgtE B e) p || usedB Y p) = usedB B p) ∧ s2 = 0 := by
    rcases lft_cases A a with ⟨n1, a1, l1⟩ | ⟨A0, q, rfl, hq, n1, a1⟩
    · have hX : nxt 0 A ≤ a := by
        cases hl : A.getLast? with
        | none =>
          rw [List.getLast?_eq_none_iff] at hl
          subst hl
          exact Nat.zero_le _
        | some q =>
          have hne := l1 q hl
          obtain ⟨A0, rfl⟩ := List.getLast?_eq_some_iff.1 hl
          rw [nxt_last]
          have := hA q (by simp)
          omega
      have u0 : ∀ p, inR (a, a) p = false := fun p => inR_false (by show p < a ∨ a ≤ p; omega)
      rcases rgt_cases B e with ⟨n2, a2, l2⟩ | ⟨s, B0, rfl, hs, n2, a2⟩
      · refine ⟨A, B, 0, ?_, gA, by rw [a1]; exact hX, by omega, by omega, by omega, ?_, ?_, ?_, rfl⟩
        · unfold glue; rw [n1, n2, tk_all, dr_0]
        · rw [a2]
          cases B with
          | nil => trivial
          | cons s B0 =>
            have := hB s B0 rfl
            have := l2 s B0 rfl
            exact ⟨by omega, gB.2⟩
        · intro p; rw [a1, u0]; simp
        · intro p; rw [a2, inR_false (by show p < e ∨ e ≤ p; omega)]; simp
      · have g2 := gB
        refine ⟨A, B0, 0, ?_, gA, by rw [a1]; exact hX, by omega, by rw [a2]; have := gB.2.1; omega, by rw [a2]; exact gB.2.2.1, by rw [a2]; exact gB.2.2.2, ?_, ?_, rfl⟩
        · unfold glue; rw [n1, n2, tk_all, dr_1]
        · intro p; rw [a1, u0]; simp
        · intro p; rw [a2, used_cons, ← hs]
    · have u1 : ∀ p, (usedB A0 p || inR (q.1, a) p) = usedB (A0 ++ [q]) p := fun p => by rw [used_app, ← hq]; simp [usedB]
      obtain ⟨gA0, gq⟩ := (good_app P A0 [q] 0).1 gA
      rw [nxt_last] at gB
      have hq1 := gq.1
      have hq2 := gq.2.1
      rcases rgt_cases B e with ⟨n2, a2, l2⟩ | ⟨s, B0, rfl, hs, n2, a2⟩
      · refine ⟨A0, B, 0, ?_, gA0, by rw [a1]; exact hq1, by omega, by omega, by omega, ?_, ?_, ?_, rfl⟩
        · unfold glue; rw [n1, n2, tk_mid, dr_0]
        · rw [a2]
          cases B with
          | nil => trivial
          | cons s B0 =>
            have := hB s B0 rfl
            have := l2 s B0 rfl
            exact ⟨by omega, gB.2⟩
        · intro p; rw [a1]; exact u1 p
        · intro p; rw [a2, inR_false (by show p < e ∨ e ≤ p; omega)]; simp
      · refine ⟨A0, B0, 0, ?_, gA0, by rw [a1]; exact hq1, by omega, by rw [a2]; have := gB.2.1; omega, by rw [a2]; exact gB.2.2.1, by rw [a2]; exact gB.2.2.2, ?_, ?_, rfl⟩
        · unfold glue; rw [n1, n2, tk_mid, dr_1]
        · intro p; rw [a1]; exact u1 p
        · intro p; rw [a2, used_cons, ← hs]
  obtain ⟨X, Y, _, hg, gX, h1, h2, h3, h4, gY, uA, uB, _⟩ := R
  rw [← hg]
  refine ⟨?_, ?_⟩
  · rw [List.append_assoc, good_app]
    exact ⟨gX, h1, by show lftA A a < rgtE B e; omega, h4, gY⟩
  · intro p
    rw [used_app, used_app, used_app A B, ← uA, ← uB, used_cons, used_nil]
    have : inR (lftA A a, rgtE B e) p = (inR (lftA A a, a) p || inR (a, e) p || inR (e, rgtE B e) p) := by
      unfold inR
      rw [Bool.eq_iff_iff]
      simp
      omega
    rw [this]
    cases usedB X p <;> cases usedB Y p <;> cases inR (lftA A a, a) p <;> cases inR (a, e) p <;> cases inR (e, rgtE B e) p <;> rfl

/-- What is left of a run. -/
def lefts (s : Nat × Nat) (a e : Nat) : List (Nat × Nat) := (if s.1 < a then [(s.1, a)] else []) ++ (if e < s.2 then [(e, s.2)] else [])
theorem cut_good {P : Nat} {A B0 : List (Nat × Nat)} {s : Nat × Nat} {a e : Nat} (h : Good P 0 (A ++ s :: B0)) (h1 : s.1 ≤ a) (h2 : e ≤ s.2) (hae : a < e) :
    Good P 0 (A ++ lefts s a e ++ B0) ∧ ∀ p, usedB (A ++ lefts s a e ++ B0) p = (usedB (A ++ s :: B0) p && !inR (a, e) p) := by
  obtain ⟨gA, gs1, gs2, gs3, gB⟩ := (good_app P A (s :: B0) 0).1 h
  constructor
  · rw [List.append_assoc, good_app]
    refine ⟨gA, ?_⟩
    unfold lefts
    by_cases c1 : s.1 < a
    · by_cases c2 : e < s.2
      · rw [if_pos c1, if_pos c2]
        exact ⟨gs1, c1, by show a ≤ P; omega, by show a + 1 ≤ e; omega, c2, gs3, gB⟩
      · rw [if_pos c1, if_neg c2]
        exact ⟨gs1, c1, by show a ≤ P; omega, good_mono gB (by show a + 1 ≤ _; omega)⟩
    · by_cases c2 : e < s.2
      · rw [if_neg c1, if_pos c2]
        exact ⟨by show nxt 0 A ≤ e; omega, c2, gs3, gB⟩
      · rw [if_neg c1, if_neg c2]
        exact good_mono gB (by omega)
  · intro p
    have hA : usedB A p = true → inR (a, e) p = false := fun hu => by
      apply inR_false
      left
      show p < a
      obtain ⟨r, hr, hp⟩ := List.any_eq_true.1 hu
      have hp := of_decide_eq_true hp
      have : r.2 + 1 ≤ nxt 0 A := by
        have : ∀ (A : List (Nat × Nat)) lo, Good P lo A → ∀ r ∈ A, r.2 + 1 ≤ nxt lo A := by
          intro A
          induction A with
          | nil => intro lo _ r hr; cases hr
          | cons q A ih =>
            intro lo g r hr
            have gg := g.2.2.2
            rcases List.mem_cons.1 hr with rfl | hr
            · show r.2 + 1 ≤ nxt (r.2 + 1) A
              cases A with
              | nil => exact Nat.le_refl _
              | cons q2 A =>
                have := ih _ gg q2 (by simp)
                have h3 := gg.1
                have h4 := gg.2.1
                omega
            · exact ih _ gg r hr
        exact this A 0 gA r hr
      omega
    have hB : usedB B0 p = true → inR (a, e) p = false := fun hu => by
      apply inR_false
      right
      show e ≤ p
      apply Decidable.byContradiction
      intro hc
      rw [used_lo gB (by omega)] at hu
      cases hu
    have hs : usedB (lefts s a e) p = (inR s p && !inR (a, e) p) := by
      unfold lefts usedB inR
      by_cases c1 : s.1 < a <;> by_cases c2 : e < s.2 <;> simp only [c1, c2, if_true, if_false, List.nil_append, List.append_nil, List.cons_append, List.any_cons, List.any_nil] <;> rw [Bool.eq_iff_iff] <;> simp <;> omega
    rw [used_app, used_app, used_app, used_cons, hs]
    cases hua : usedB A p <;> cases hub : usedB B0 p <;> cases hi : inR (a, e) p <;> simp_all
end Go.Proofs.Ytmhdcpkncaghpaa
