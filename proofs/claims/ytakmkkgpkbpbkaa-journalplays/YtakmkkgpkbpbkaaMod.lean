/- Own: what acts make of a disk's sectors. No statement is proved here. -/
import Derived.Test.YtakmkkgpkbpbkaaJwrite
namespace Go.Proofs.Ytakmkkgpkbpbkaa
open Go.RowKit
set_option linter.unusedVariables false
set_option linter.unusedSimpArgs false

def DAct.valid (n : Nat) : DAct → Prop
  | .wr i xs => (0 ≤ i ∧ i < (n : Int)) ∧ xs.length ≤ 64
  | .fl => True
abbrev St := List (List Int) × List (Nat × List Int)
def ap (p : St) : DAct → St
  | .wr i xs => (p.1, p.2 ++ [(i.toNat, pad64 xs)])
  | .fl => (keepK p.1 p.2 (fun _ => true) p.2.length, [])
def apAll (l : List DAct) (p : St) : St := l.foldl ap p
def DiskM.st (d : DiskM) : St := (d.safe, d.wet)
theorem one_cases (d : DiskM) (a : DAct) (hoff : d.off = false) (hv : a.valid d.safe.length) :
    ((d.one a).2 = 0 ∧ (d.one a).1.off = false ∧ (d.one a).1.st = ap d.st a ∧ (d.one a).1.armed = d.armed) ∨
    (d.armed = true ∧ (d.one a).2 = 9 ∧ (d.one a).1.off = true ∧ ((d.one a).1.st = ap d.st a ∨ (d.one a).1.st = d.st)) := by
  obtain ⟨safe, wet, acts, armed, left, off⟩ := d
  dsimp only at hoff hv
  subst hoff
  cases a with
  | wr i xs =>
    have hv' : (0 ≤ i ∧ i < (safe.length : Int)) ∧ xs.length ≤ 64 := hv
    simp only [DiskM.one, DiskM.write]
    rw [if_pos hv']
    rw [if_neg (by decide)]
    unfold DiskM.act DiskM.actE
    cases armed with
    | false => exact .inl ⟨rfl, rfl, rfl, rfl⟩
    | true =>
      by_cases hl : left = 0
      · subst hl; exact .inr ⟨rfl, rfl, rfl, .inl rfl⟩
      · left
        simp [hl, DiskM.st, ap]
  | fl =>
    simp only [DiskM.one, DiskM.flush]
    rw [if_neg (by decide)]
    unfold DiskM.act DiskM.actE
    cases armed with
    | false => exact .inl ⟨rfl, rfl, rfl, rfl⟩
    | true =>
      by_cases hl : left = 0
      · subst hl; exact .inr ⟨rfl, rfl, rfl, .inr rfl⟩
      · left
        simp [hl, DiskM.st, ap, DiskM.flushed]
theorem run_cases (l : List DAct) (d : DiskM) (hoff : d.off = false) (hv : ∀ a ∈ l, a.valid d.safe.length) :
    ((DiskM.run l d).2 = 0 ∧ (DiskM.run l d).1.off = false ∧ (DiskM.run l d).1.st = apAll l d.st ∧ (DiskM.run l d).1.armed = d.armed) ∨
    (d.armed = true ∧ (DiskM.run l d).2 = 9 ∧ (DiskM.run l d).1.off = true ∧ ∃ a b, l = a ++ b ∧ (DiskM.run l d).1.st = apAll a d.st) := by
  induction l generalizing d with
  | nil => exact .inl ⟨rfl, hoff, rfl, rfl⟩
  | cons x l ih =>
    rcases one_cases d x hoff (hv x List.mem_cons_self) with ⟨h1, h2, h3, h4⟩ | ⟨h0, h1, h2, h3⟩
    · have e : DiskM.run (x :: l) d = DiskM.run l (d.one x).1 := by simp only [DiskM.run, if_pos h1]
      rw [e]
      rcases ih (d.one x).1 h2 (fun a ha => by rw [DiskM.one_len]; exact hv a (List.mem_cons_of_mem _ ha)) with ⟨g1, g2, g3, g4⟩ | ⟨g0, g1, g2, a, b, g3, g4⟩
      · exact .inl ⟨g1, g2, by rw [g3, h3]; rfl, g4.trans h4⟩
      · exact .inr ⟨by rw [← h4]; exact g0, g1, g2, x :: a, b, by rw [g3]; rfl, by rw [g4, h3]; rfl⟩
    · have e : DiskM.run (x :: l) d = d.one x := by simp only [DiskM.run]; rw [if_neg (by rw [h1]; decide)]
      rw [e]
      rcases h3 with h3 | h3
      · exact .inr ⟨h0, h1, h2, [x], l, rfl, h3⟩
      · exact .inr ⟨h0, h1, h2, [], x :: l, rfl, h3⟩
/-- Writes alone. -/
def wrs : List (Int × List Int) → List DAct := List.map fun x => .wr x.1 x.2
def wets : List (Int × List Int) → List (Nat × List Int) := List.map fun x => (x.1.toNat, pad64 x.2)
theorem ap_wrs (l : List (Int × List Int)) (p : St) : apAll (wrs l) p = (p.1, p.2 ++ wets l) := by
  induction l generalizing p with
  | nil => simp [apAll, wrs, wets]
  | cons x l ih =>
    have := ih (ap p (.wr x.1 x.2))
    show apAll (wrs l) (ap p (.wr x.1 x.2)) = _
    rw [this]
    simp [ap, wets]
theorem apAll_app (a b : List DAct) (p : St) : apAll (a ++ b) p = apAll b (apAll a p) := by simp [apAll, List.foldl_append]

theorem lastW_mem {W : List (Nat × List Int)} {k : Nat} {y : List Int} (h : lastW W k = some y) : (k, y) ∈ W := by
  induction W with
  | nil => simp [lastW] at h
  | cons x W ih =>
    simp only [lastW] at h
    cases hr : lastW W k with
    | some t => rw [hr] at h; simp at h; subst h; exact List.mem_cons_of_mem _ (ih hr)
    | none =>
      rw [hr] at h
      simp only [Option.none_or] at h
      split at h
      · rename_i he; simp at h; subst h; subst he; exact List.mem_cons_self
      · simp at h
theorem lastW_none {W : List (Nat × List Int)} {k : Nat} (h : lastW W k = none) : ∀ x ∈ W, x.1 ≠ k := by
  induction W with
  | nil => simp
  | cons x W ih =>
    simp only [lastW] at h
    cases hr : lastW W k with
    | some t => rw [hr] at h; simp at h
    | none =>
      rw [hr] at h
      simp only [Option.none_or] at h
      intro y hy
      rcases List.mem_cons.1 hy with rfl | hy
      · intro he; rw [if_pos he] at h; simp at h
      · exact ih hr y hy
theorem getD_set (s : List (List Int)) (i : Nat) (y : List Int) (k : Nat) : (s.set i y).getD k [] = if i = k ∧ k < s.length then y else s.getD k [] := by
  simp only [List.getD, List.getElem?_set]
  by_cases h : i = k
  · subst h
    by_cases h2 : i < s.length
    · simp [h2]
    · simp [h2]
  · simp [h]
theorem keep_full (s : List (List Int)) (W : List (Nat × List Int)) (k : Nat) (hk : k < s.length) : ∀ j, j ≤ W.length → (keepK s W (fun _ => true) j).getD k [] = (lastW (W.take j) k).getD (s.getD k [])
  | 0, _ => by simp [keepK, lastW]
  | j + 1, hj => by
    obtain ⟨x, hx⟩ : ∃ x, W[j]? = some x := ⟨_, List.getElem?_eq_getElem (by omega)⟩
    have ih := keep_full s W k hk j (by omega)
    have hg : W.getD j (0, []) = x := by simp [List.getD, hx]
    rw [keepK, hg, List.take_add_one, hx]
    simp only [if_true]
    rw [getD_set, keepK_len, ih]
    show _ = (lastW (List.take j W ++ [x]) k).getD _
    rw [lastW_app]
    simp only [lastW, Option.none_or]
    by_cases h : x.1 = k
    · rw [if_pos ⟨h, hk⟩, if_pos h]; rfl
    · rw [if_neg (fun h' => h h'.1), if_neg h]; rfl
theorem keep_all_get (s : List (List Int)) (W : List (Nat × List Int)) (k : Nat) (hk : k < s.length) : (keepK s W (fun _ => true) W.length).getD k [] = (lastW W k).getD (s.getD k []) := by
  have := keep_full s W k hk W.length (Nat.le_refl _)
  rwa [List.take_length] at this
theorem keep_part (s : List (List Int)) (W : List (Nat × List Int)) (f : Nat → Bool) (k : Nat) : ∀ j, j ≤ W.length → (keepK s W f j).getD k [] = s.getD k [] ∨ ∃ x ∈ W, x.1 = k ∧ (keepK s W f j).getD k [] = x.2
  | 0, _ => .inl (by simp [keepK])
  | j + 1, hj => by
    obtain ⟨x, hx⟩ : ∃ x, W[j]? = some x := ⟨_, List.getElem?_eq_getElem (by omega)⟩
    have ih := keep_part s W f k j (by omega)
    have hg : W.getD j (0, []) = x := by simp [List.getD, hx]
    rw [keepK, hg]
    split
    · rw [getD_set]
      split
      · rename_i h; exact .inr ⟨x, List.mem_of_getElem? hx, h.1, rfl⟩
      · exact ih
    · exact ih

/-! What is read of the journal's sectors alone. -/
theorem pageM_congr {a b : List (List Int)} (h : ∀ k, k < 49 → a.getD k [] = b.getD k []) (m j : Nat) (hj : j < 24) : pageM a m j = pageM b m j := by
  unfold pageM
  rw [h (1 + 2 * j) (by omega), h (2 + 2 * j) (by omega)]
theorem begunK_congr {a b : List (List Int)} (m : Nat) : ∀ n, (∀ j, j < n → pageM a m j = pageM b m j) → begunK a m n = begunK b m n
  | 0, _ => rfl
  | n + 1, h => by rw [begunK, begunK, begunK_congr m n (fun j hj => h j (by omega)), h n (by omega)]
theorem begunM_congr {a b : List (List Int)} (h : ∀ k, k < 49 → a.getD k [] = b.getD k []) : begunM a = begunM b := by
  unfold begunM
  rw [h 0 (by omega)]
  split
  · rfl
  · exact begunK_congr _ _ (fun j hj => pageM_congr h _ j (by omega))
theorem begunK_some {ss : List (List Int)} {m : Nat} {f : Nat → Int × List Int} : ∀ n, (∀ j, j < n → pageM ss m j = some (f j)) → begunK ss m n = some ((List.range n).map f)
  | 0, _ => rfl
  | n + 1, h => by rw [begunK, begunK_some n (fun j hj => h j (by omega)), h n (by omega)]; simp [List.range_succ]

/-! Numbers as bytes. -/
theorem numK_four (m : Int) (h : 0 ≤ m ∧ m < 4294967296) (r : List Int) : ((numK (fourB m ++ r) 4 : Nat) : Int) = m := by
  have e : numK (fourB m ++ r) 4 = numK (fourB m) 4 := by simp [numK, fourB]
  rw [e, num_four]; omega
end Go.Proofs.Ytakmkkgpkbpbkaa
