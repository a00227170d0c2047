/- Own lemmas: which bytes stand ahead. No statement is proved here. -/
import Derived.Test.YtimajdbgeibalaaDoorNative
namespace Go.Proofs.YtimajdbgeibalaaDoor
open Go.RowKit
set_option linter.unusedVariables false

def Byt (x : Int) : Prop := 0 ≤ x ∧ x < 256
theorem byte_lt {x y : Int} (hx : Byt x) (hy : Byt y) : (UInt8.ofNat x.toNat < UInt8.ofNat y.toNat) ↔ x < y := by
  obtain ⟨h0, h1⟩ := hx
  obtain ⟨h2, h3⟩ := hy
  rw [UInt8.lt_iff_toNat_lt, UInt8.toNat_ofNat', UInt8.toNat_ofNat']
  omega
theorem lessB_nil : lessB [] [] = false := by decide
theorem lessB_cons {x y : Int} (hx : Byt x) (hy : Byt y) (xs ys : List Int) : lessB (x :: xs) (y :: ys) = if x = y then lessB xs ys else decide (x < y) := by
  unfold lessB Lib.bytesOf
  simp only [List.map_cons, Lib.compareBytes]
  by_cases h : x < y
  · rw [if_pos ((byte_lt hx hy).2 h), if_neg (by omega)]; simp [h]
  · rw [if_neg (fun k => h ((byte_lt hx hy).1 k))]
    by_cases h2 : y < x
    · rw [if_pos ((byte_lt hy hx).2 h2), if_neg (by omega)]; simp [h]
    · rw [if_neg (fun k => h2 ((byte_lt hy hx).1 k)), if_pos (by omega)]
theorem lessB_irrefl : ∀ (xs : List Int), (∀ x ∈ xs, Byt x) → lessB xs xs = false
  | [], _ => lessB_nil
  | x :: xs, h => by rw [lessB_cons (h x (by simp)) (h x (by simp)), if_pos rfl]; exact lessB_irrefl xs (fun y hy => h y (by simp [hy]))
theorem lessB_anti : ∀ (xs ys : List Int), xs.length = ys.length → (∀ x ∈ xs, Byt x) → (∀ y ∈ ys, Byt y) → xs ≠ ys → lessB ys xs = !lessB xs ys
  | [], [], _, _, _, h => absurd rfl h
  | [], _ :: _, h, _, _, _ => by simp at h
  | _ :: _, [], h, _, _, _ => by simp at h
  | x :: xs, y :: ys, hl, hx, hy, hne => by
    rw [lessB_cons (hx x (by simp)) (hy y (by simp)), lessB_cons (hy y (by simp)) (hx x (by simp))]
    by_cases h : x = y
    · subst h
      rw [if_pos rfl, if_pos rfl]
      exact lessB_anti xs ys (by simpa using hl) (fun z hz => hx z (by simp [hz])) (fun z hz => hy z (by simp [hz])) (fun e => hne (by rw [e]))
    · rw [if_neg h, if_neg (Ne.symm h)]
      by_cases h2 : x < y
      · simp [h2]; omega
      · simp [h2]; omega
theorem lessB_drop {xs ys : List Int} {j : Nat} (hl : xs.length = 32) (hm : ys.length = 32) (hx : ∀ x ∈ xs, Byt x) (hy : ∀ y ∈ ys, Byt y) (hj : j < 32) :
    lessB (xs.drop j) (ys.drop j) = if xs.getD j 0 = ys.getD j 0 then lessB (xs.drop (j + 1)) (ys.drop (j + 1)) else decide (xs.getD j 0 < ys.getD j 0) := by
  have e1 : xs.drop j = xs.getD j 0 :: xs.drop (j + 1) := by rw [List.drop_eq_getElem_cons (by omega)]; simp [List.getD, show j < xs.length by omega]
  have e2 : ys.drop j = ys.getD j 0 :: ys.drop (j + 1) := by rw [List.drop_eq_getElem_cons (by omega)]; simp [List.getD, show j < ys.length by omega]
  rw [e1, e2]
  exact lessB_cons (hx _ (by simp [List.getD, show j < xs.length by omega])) (hy _ (by simp [List.getD, show j < ys.length by omega])) _ _
end Go.Proofs.YtimajdbgeibalaaDoor
