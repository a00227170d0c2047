/- Own: the first hole, how many are free; what Find, Left and Used tell. No statement is proved here. -/
import Derived.Test.YtmhdcpkncaghpaaRuns
namespace Go.Proofs.Ytmhdcpkncaghpaa
open Go.RowKit
set_option linter.unusedVariables false
set_option linter.unusedSimpArgs false

def fnd (n P : Nat) : Nat → List (Nat × Nat) → Option Nat
  | a, [] => if a + n ≤ P then some a else none
  | a, r :: L => if a + n ≤ r.1 then some a else fnd n P r.2 L
/-- n places from q on are there and free. -/
def FreeAt (U : Nat → Bool) (P n q : Nat) : Prop := q + n ≤ P ∧ ∀ j, j < n → U (q + j) = false
/-- The least such place, if any. -/
def Least (U : Nat → Bool) (P n : Nat) : Option Nat → Prop
  | some q => FreeAt U P n q ∧ ∀ p, p < q → ¬ FreeAt U P n p
  | none => ∀ p, ¬ FreeAt U P n p
theorem fnd_spec (n P : Nat) (hn : 0 < n) : ∀ (L : List (Nat × Nat)) (a lo : Nat), Good P lo L → a ≤ lo → (∀ q, fnd n P a L = some q → a ≤ q ∧ FreeAt (usedB L) P n q ∧ ∀ p, a ≤ p → p < q → ¬ FreeAt (usedB L) P n p) ∧ (fnd n P a L = none → ∀ p, a ≤ p → ¬ FreeAt (usedB L) P n p)
  | [], a, lo, _, _ => by
    unfold fnd
    by_cases h : a + n ≤ P
    · rw [if_pos h]
      refine ⟨?_, by intro h; cases h⟩
      rintro q ⟨rfl⟩
      exact ⟨Nat.le_refl _, ⟨h, fun _ _ => rfl⟩, fun p h1 h2 => by omega⟩
    · rw [if_neg h]
      refine ⟨by (intro q h; cases h), fun _ p hp hf => ?_⟩
      have := hf.1
      omega
  | r :: L, a, lo, hg, hlo => by
    obtain ⟨g1, g2, g3, g4⟩ := hg
    obtain ⟨i1, i2⟩ := fnd_spec n P hn L r.2 (r.2 + 1) g4 (Nat.le_succ _)
    have key : ∀ p, ¬ a + n ≤ r.1 → a ≤ p → FreeAt (usedB (r :: L)) P n p → r.2 ≤ p ∧ FreeAt (usedB L) P n p := fun p hc hp hf => by
      have hr : r.2 ≤ p := by
        apply Decidable.byContradiction
        intro hh
        by_cases hq : r.1 ≤ p
        · have := hf.2 0 hn
          rw [used_cons, inR_true (by omega) (by omega)] at this
          simp at this
        · have := hf.2 (r.1 - p) (by omega)
          rw [used_cons, inR_true (by omega) (by omega)] at this
          simp at this
      refine ⟨hr, hf.1, fun j hj => ?_⟩
      have := hf.2 j hj
      rw [used_cons] at this
      simp at this
      exact this.2
    unfold fnd
    by_cases h : a + n ≤ r.1
    · rw [if_pos h]
      refine ⟨?_, by intro h; cases h⟩
      rintro q ⟨rfl⟩
      refine ⟨Nat.le_refl _, ⟨by omega, fun j hj => ?_⟩, fun p h1 h2 => by omega⟩
      rw [used_cons, inR_false (by omega), used_lo g4 (by omega)]; rfl
    · rw [if_neg h]
      refine ⟨fun q hq => ?_, fun hq p hp hf => ?_⟩
      · obtain ⟨k1, k2, k3⟩ := i1 q hq
        refine ⟨by omega, ⟨k2.1, fun j hj => ?_⟩, fun p h1 h2 hf => ?_⟩
        · rw [used_cons, k2.2 j hj, inR_false (by omega)]; rfl
        · obtain ⟨k4, k5⟩ := key p h h1 hf
          exact k3 p k4 h2 k5
      · obtain ⟨k4, k5⟩ := key p h hp hf
        exact i2 hq p k4 k5
theorem fnd_least {n P : Nat} (hn : 0 < n) {L : List (Nat × Nat)} (hg : Good P 0 L) : Least (usedB L) P n (fnd n P 0 L) := by
  obtain ⟨h1, h2⟩ := fnd_spec n P hn L 0 0 hg (Nat.le_refl _)
  cases h : fnd n P 0 L with
  | none => exact fun p => h2 h p (Nat.zero_le _)
  | some q => exact ⟨(h1 q h).2.1, fun p hp => (h1 q h).2.2 p (Nat.zero_le _) hp⟩
theorem least_eq {U V : Nat → Bool} (e : ∀ p, U p = V p) {P n : Nat} {o : Option Nat} (h : Least U P n o) : Least V P n o := by
  have : U = V := funext e
  subst this
  exact h
theorem least_one {U : Nat → Bool} {P n : Nat} {o o' : Option Nat} (h : Least U P n o) (h' : Least U P n o') : o = o' := by
  cases o with
  | none => cases o' with
    | none => rfl
    | some q => exact absurd h'.1 (h q)
  | some q => cases o' with
    | none => exact absurd h.1 (h' q)
    | some q' =>
      congr 1
      rcases Nat.lt_trichotomy q q' with c | c | c
      · exact absurd h.1 (h'.2 q c)
      · exact c
      · exact absurd h'.1 (h.2 q' c)
def optI : Option Nat → Int
  | some q => q
  | none => -1

def cnt (f : Nat → Bool) : Nat → Nat
  | 0 => 0
  | p + 1 => cnt f p + (f p).toNat
def sumR : List (Nat × Nat) → Nat
  | [] => 0
  | r :: L => (r.2 - r.1) + sumR L
theorem cnt_le (f : Nat → Bool) (P : Nat) : cnt f P ≤ P := by
  induction P with
  | zero => exact Nat.le_refl _
  | succ P ih => unfold cnt; cases f P <;> simp <;> omega
theorem cnt_not (f : Nat → Bool) (P : Nat) : cnt f P + cnt (fun p => !f p) P = P := by
  induction P with
  | zero => rfl
  | succ P ih => unfold cnt; cases f P <;> simp <;> omega
theorem cnt_congr {f g : Nat → Bool} {P : Nat} (h : ∀ p, p < P → f p = g p) : cnt f P = cnt g P := by
  induction P with
  | zero => rfl
  | succ P ih => unfold cnt; rw [ih (fun p hp => h p (by omega)), h P (by omega)]
theorem cnt_or {f g : Nat → Bool} {P : Nat} (h : ∀ p, p < P → f p = true → g p = false) : cnt (fun p => f p || g p) P = cnt f P + cnt g P := by
  induction P with
  | zero => rfl
  | succ P ih =>
    have := h P (by omega)
    unfold cnt
    rw [ih (fun p hp => h p (by omega))]
    cases hf : f P <;> cases hg : g P <;> simp_all <;> omega
theorem cnt_in (r : Nat × Nat) (h : r.1 ≤ r.2) (P : Nat) : cnt (inR r) P = min P r.2 - min P r.1 := by
  induction P with
  | zero => simp [cnt]
  | succ P ih =>
    unfold cnt
    rw [ih]
    by_cases hp : r.1 ≤ P ∧ P < r.2
    · rw [inR_true hp.1 hp.2]; simp; omega
    · rw [inR_false (by omega)]; simp; omega
theorem cnt_used {P lo : Nat} {L : List (Nat × Nat)} (h : Good P lo L) : cnt (usedB L) P = sumR L := by
  induction L generalizing lo with
  | nil =>
    show cnt (usedB []) P = 0
    clear h
    induction P with
    | zero => rfl
    | succ P ih => unfold cnt; rw [ih]; rfl
  | cons r L ih =>
    obtain ⟨g1, g2, g3, g4⟩ := h
    have : cnt (usedB (r :: L)) P = cnt (fun p => inR r p || usedB L p) P := rfl
    rw [this, cnt_or, ih g4, cnt_in r (by omega)]
    · show _ = (r.2 - r.1) + sumR L; omega
    · intro p _ hp
      have hp := of_decide_eq_true hp
      exact used_lo g4 (by omega)
theorem sumR_app (A B : List (Nat × Nat)) : sumR (A ++ B) = sumR A + sumR B := by
  induction A with
  | nil => simp [sumR]
  | cons r A ih => simp only [List.cons_append, sumR, ih]; omega

set_option maxHeartbeats 1600000 in
set_option maxRecDepth 100000 in
theorem left_any (w : World) (D P : Nat) (v : Value) (L : List (Nat × Nat)) (h : MapIn w D P v L) (hg : Good P 0 L) (hP : P ≤ 5000) :
    Calls Try.prog 14 #[.pointer (some ⟨D, 0, none⟩)] w (None w (.int .i64 ((P - sumR L : Nat) : Int))) := by
  have hlen := good_len0 hg
  have hsum : ∀ i, i ≤ L.length → sumR (L.take i) ≤ P := fun i hi => by
    have := cnt_used hg
    have h2 := cnt_le (usedB L) P
    have h3 := sumR_app (L.take i) (L.drop i)
    rw [List.take_append_drop] at h3
    omega
  have hstep : ∀ i (hi : i < L.length), sumR (L.take (i + 1)) = sumR (L.take i) + (L[i].2 - L[i].1) ∧ L[i].1 < L[i].2 ∧ L[i].2 ≤ P := fun i hi => by
    have hm := good_mem hg L[i] (List.getElem_mem _)
    rw [List.take_succ_eq_append_getElem hi, sumR_app]
    exact ⟨by simp [sumR], hm.2⟩
  have c0 := h.cell0
  have c1 := h.cell1
  obtain ⟨a, cap, rfl⟩ := own_shape h.own
  have HH := Lib.hid h
  have HS := Lib.hid hsum
  have HT := Lib.hid hstep
  have HG := Lib.hid hg
  obtain ⟨n, hn⟩ : ∃ n, L.length = n := ⟨_, rfl⟩
  obtain ⟨s, hs⟩ : ∃ s, P - sumR L = s := ⟨_, rfl⟩
  rw [hs]
  rw [hn] at c1 hlen
  have HN := Lib.hid hn
  have HX := Lib.hid hs
  clear h hsum hstep hg hn hs
  go_enter Try.func14, Try.ntmps14
  go_wp2
  go_loopw [3, 17] (fun lv iv wr => ∃ i : Nat, i ≤ n ∧ iv = .int .i64 (i : Int) ∧ lv = .int .i64 ((P - sumR (L.take i) : Nat) : Int) ∧ Turn (fun _ => False) w wr) (fun _ iv _ => (n - intOf iv).toNat)
  case atStart => exact ⟨0, Nat.zero_le _, rfl, by simp [sumR], Turn.refl _ _⟩
  case round =>
    obtain ⟨i, hi, rfl, rfl, T⟩ := hrel
    have hT := Lib.hid T
    by_cases hlt : i < n
    · have hiL : i < L.length := by rw [HN.out]; exact hlt
      obtain ⟨k1, k2, k3⟩ := HT.out i hiL
      have hsi := HS.out (i + 1) (by omega)
      obtain ⟨g, cap', he, e1, e2⟩ := own_get (HH.out.none T).own hiL
      cases he
      obtain ⟨x, hx⟩ : ∃ x, L[i].1 = x := ⟨_, rfl⟩
      obtain ⟨y, hy⟩ : ∃ y, L[i].2 = y := ⟨_, rfl⟩
      obtain ⟨S, hS⟩ : ∃ S, sumR (L.take i) = S := ⟨_, rfl⟩
      rw [hx, hy] at k1 k2
      rw [hy] at k3 e2
      rw [hx] at e1
      rw [hS] at k1 ⊢
      have hSP : S + (y - x) ≤ P := by omega
      obtain ⟨q, hq⟩ : ∃ q, P - S = q := ⟨_, rfl⟩
      rw [hq]
      have K1 := Lib.hid k1
      have hq2 : (y : Int) - (x : Int) ≤ (q : Int) := by omega
      have K2 := Lib.hid hq
      have hq3 : q ≤ P := by omega
      clear k1 hx hy hS T hq hsi
      go_wp2
      go_roundw
      case measure => simp [intOf]; omega
      case rel => exact ⟨i + 1, by omega, by simp, by have := K1.out; have := K2.out; congr 1; omega, hT.out.alloc _⟩
    · have : i = n := by omega
      subst this
      have hfin : sumR (L.take i) = sumR L := by rw [← HN.out, List.take_length]
      rw [hfin, HX.out]
      go_wp2
      go_ret
      exact ⟨rfl, hT.out⟩
end Go.Proofs.Ytmhdcpkncaghpaa
