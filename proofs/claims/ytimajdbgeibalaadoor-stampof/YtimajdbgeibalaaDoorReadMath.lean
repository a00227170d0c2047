/- Own lemmas: which texts are keys' texts. No statement is proved here. -/
import Derived.Test.YtimajdbgeibalaaDoorStexts
import Derived.Test.YtimajdbgeibalaaDoorOrder
namespace Go.Proofs.YtimajdbgeibalaaDoor
open Go.RowKit
set_option linter.unusedVariables false

/-- A digit of base 16, as the law looks at it. -/
def digitB (c : Int) : Bool := (decide (48 ≤ c) && decide (c ≤ 57)) || (decide (97 ≤ c) && decide (c ≤ 102))
theorem digit_all : (List.range 256).all (fun n => (decide (0 ≤ unhex (n : Int)) == digitB (n : Int)) && (!digitB (n : Int) || (hexd (unhex (n : Int)) == (n : Int)))) = true := by kernel_rfl
theorem digit_at {c : Int} (h : Byt c) : (0 ≤ unhex c ↔ digitB c = true) ∧ (digitB c = true → hexd (unhex c) = c) := by
  obtain ⟨h0, h1⟩ := h
  obtain ⟨n, rfl⟩ := Int.eq_ofNat_of_zero_le h0
  have := List.all_eq_true.1 digit_all n (by simp; omega)
  simp only [Bool.and_eq_true, beq_iff_eq, Bool.or_eq_true, Bool.not_eq_true'] at this
  refine ⟨by rw [← this.1]; simp, fun hd => ?_⟩
  rcases this.2 with h | h
  · rw [hd] at h; cases h
  · exact h
/-- What the law makes of the first k bytes. -/
def rightB (xs : List Int) (k : Nat) : Bool := (xs.length == 64) && (List.range k).all fun i => digitB (xs.getD i 0)
theorem rightB_succ (xs : List Int) (k : Nat) : rightB xs (k + 1) = (rightB xs k && digitB (xs.getD k 0)) := by
  simp [rightB, List.range_succ, Bool.and_assoc]
theorem right_read (xs : List Int) (hb : ∀ x ∈ xs, Byt x) : rightB xs xs.length = readOk xs := by
  have byt : ∀ i, Byt (xs.getD i 0) := fun i => by
    by_cases hi : i < xs.length
    · exact hb _ (getD_mem hi)
    · simp only [List.getD, List.getElem?_eq_none (Nat.le_of_not_lt hi)]; exact ⟨by decide, by decide⟩
  rw [Bool.eq_iff_iff, readOk_iff]
  simp only [rightB, Bool.and_eq_true, beq_iff_eq, List.all_eq_true, List.mem_range]
  constructor
  · rintro ⟨hl, h⟩
    exact ⟨hl, fun i hi => ⟨(digit_at (byt _)).1.2 (h _ (by omega)), (digit_at (byt _)).1.2 (h _ (by omega))⟩⟩
  · rintro ⟨hl, h⟩
    refine ⟨hl, fun i hi => ?_⟩
    obtain ⟨g1, g2⟩ := h (i / 2) (by omega)
    by_cases e : i % 2 = 0
    · rw [show 2 * (i / 2) = i by omega] at g1; exact (digit_at (byt _)).1.1 g1
    · rw [show 2 * (i / 2) + 1 = i by omega] at g2; exact (digit_at (byt _)).1.1 g2
theorem hex_read (xs : List Int) (hb : ∀ x ∈ xs, Byt x) (h : readOk xs = true) : hexB (readK xs) = xs := by
  obtain ⟨hl, hg⟩ := (readOk_iff xs).1 h
  have byt : ∀ i, i < xs.length → Byt (xs.getD i 0) := fun i hi => hb _ (getD_mem hi)
  have hk : (readK xs).length = 32 := by unfold readK; rw [h]; simp [keyOf_len]
  have hget : ∀ i, i < 32 → (readK xs).getD i 0 = byteOf xs i := fun i hi => by
    unfold readK; rw [h, if_pos rfl]; simp [keyOf, List.getD, hi]
  apply List.ext_getElem
  · rw [hexB_len]; omega
  · intro i h1 h2
    have e1 : (hexB (readK xs))[i] = (hexB (readK xs)).getD i 0 := by simp [List.getD, h1]
    have e2 : xs[i] = xs.getD i 0 := by simp [List.getD, h2]
    rw [e1, e2]
    obtain ⟨g1, g2⟩ := hg (i / 2) (by omega)
    have l1 := unhex_lt (xs.getD (2 * (i / 2)) 0)
    have l2 := unhex_lt (xs.getD (2 * (i / 2) + 1) 0)
    by_cases e : i % 2 = 0
    · obtain ⟨j, rfl⟩ : ∃ j, i = 2 * j := ⟨i / 2, by omega⟩
      rw [show 2 * j / 2 = j by omega] at g1 g2 l1 l2
      rw [hexB_even _ _ (by omega), hget j (by omega)]
      unfold byteOf
      rw [show (unhex (xs.getD (2 * j) 0) * 16 + unhex (xs.getD (2 * j + 1) 0)) / 16 = unhex (xs.getD (2 * j) 0) by omega]
      exact (digit_at (byt _ (by omega))).2 ((digit_at (byt _ (by omega))).1.1 g1)
    · obtain ⟨j, rfl⟩ : ∃ j, i = 2 * j + 1 := ⟨i / 2, by omega⟩
      rw [show (2 * j + 1) / 2 = j by omega] at g1 g2 l1 l2
      rw [hexB_odd _ _ (by omega), hget j (by omega)]
      unfold byteOf
      rw [show (unhex (xs.getD (2 * j) 0) * 16 + unhex (xs.getD (2 * j + 1) 0)) % 16 = unhex (xs.getD (2 * j + 1) 0) by omega]
      exact (digit_at (byt _ (by omega))).2 ((digit_at (byt _ (by omega))).1.1 g2)
theorem readK_len (xs : List Int) : (readK xs).length = 32 := by unfold readK; split <;> simp [keyOf_len]
theorem readK_byt (xs : List Int) : ∀ x ∈ readK xs, 0 ≤ x ∧ x < 256 := by
  unfold readK
  intro x hx
  split at hx
  · rename_i h
    obtain ⟨hl, hg⟩ := (readOk_iff xs).1 h
    simp only [keyOf, List.mem_map, List.mem_range] at hx
    obtain ⟨i, hi, rfl⟩ := hx
    obtain ⟨g1, g2⟩ := hg i hi
    have l1 := unhex_lt (xs.getD (2 * i) 0)
    have l2 := unhex_lt (xs.getD (2 * i + 1) 0)
    unfold byteOf; omega
  · have := List.eq_of_mem_replicate hx
    omega
theorem run_apart (t : TypeId) (n : Nat) (ht : Tryd.prog.underlying t = some (.array n 5)) (xs ys : List Int) (hx : xs.length = n) (hy : ys.length = n) (w : World) :
    (binOp .neq t (.agg (xs.map (Value.int .u8)).toArray) (.agg (ys.map (Value.int .u8)).toArray)).run Tryd.prog w = .ok (.bool (!(xs == ys))) w := by
  have h := run_same t n ht xs ys hx hy w
  simp only [binOp, Sem.run_bind, Sem.run_pure] at h ⊢
  generalize (Op.equal t (.agg (xs.map (Value.int .u8)).toArray) (.agg (ys.map (Value.int .u8)).toArray)).run Tryd.prog w = r at h ⊢
  cases r with
  | ok a w' =>
    simp only [Result.andThen_ok, Result.ok.injEq, Value.bool.injEq] at h ⊢
    obtain ⟨rfl, rfl⟩ := h
    exact ⟨rfl, rfl⟩
  | halt x w' => simp [Result.andThen] at h
end Go.Proofs.YtimajdbgeibalaaDoor
