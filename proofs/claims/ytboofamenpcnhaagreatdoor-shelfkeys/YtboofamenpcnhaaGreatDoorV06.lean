/- Own texts, packed: Q16. -/
import Derived.Test.YtboofamenpcnhaaGreatDoorV04
import Derived.Test.YtboofamenpcnhaaGreatDoorRows
import Derived.Test.YtboofamenpcnhaaGreatDoorV05
import Derived.Lib.Hide
import Derived.Deep.QuietTactic
import Derived.BigQuiet
import Derived.Deep.RegionHeld3
import Derived.Laws.BitsAllLaws
import Derived.WalkKit
namespace Go.Proofs.YtboofamenpcnhaaGreatDoor
set_option maxRecDepth 100000
open Go.RowKit
set_option linter.unusedVariables false
end Go.Proofs.YtboofamenpcnhaaGreatDoor
namespace Go.Proofs.YtboofamenpcnhaaGreatDoor
set_option maxRecDepth 100000
set_option linter.unusedVariables false
/-- One bit out of the register. -/
def fS (r : Nat) : Nat := if r % 2 = 1 then (r / 2) ^^^ 2197175160 else r / 2
def fN : Nat → Nat → Nat
  | 0, s => s
  | k + 1, s => fS (fN k s)
theorem fN_add (j k s : Nat) : fN (j + k) s = fN j (fN k s) := by
  induction j with
  | zero => simp [fN]
  | succ j ih => rw [show j + 1 + k = (j + k) + 1 by omega, fN, fN, ih]
theorem xor_mod2 (a b : Nat) : (a ^^^ b) % 2 = (a % 2 + b % 2) % 2 := by
  have h : (a ^^^ b) % 2 = 1 ↔ ¬ ((a % 2 = 1) ↔ (b % 2 = 1)) := Nat.xor_mod_two_eq_one
  omega
theorem xor_div2 (a b : Nat) : (a ^^^ b) / 2 = (a / 2) ^^^ (b / 2) := by
  apply Nat.eq_of_testBit_eq; intro i
  simp [Nat.testBit_xor, Nat.testBit_div_two]
theorem fS_xor (a b : Nat) : fS (a ^^^ b) = fS a ^^^ fS b := by
  unfold fS
  rw [xor_mod2, xor_div2]
  rcases Nat.mod_two_eq_zero_or_one a with ha | ha <;> rcases Nat.mod_two_eq_zero_or_one b with hb | hb <;> simp [ha, hb]
  · rw [Nat.xor_assoc]
  · rw [Nat.xor_assoc, Nat.xor_assoc, Nat.xor_comm (b / 2)]
  · rw [Nat.xor_assoc, Nat.xor_comm (b / 2), ← Nat.xor_assoc 2197175160, Nat.xor_self, Nat.zero_xor]
theorem fN_xor (k a b : Nat) : fN k (a ^^^ b) = fN k a ^^^ fN k b := by
  induction k with
  | zero => rfl
  | succ k ih => rw [fN, fN, fN, ih, fS_xor]
theorem fS_even (m : Nat) : fS (2 * m) = m := by unfold fS; rw [if_neg (by omega)]; omega
theorem fN_shift (k m : Nat) : fN k (2 ^ k * m) = m := by
  induction k generalizing m with
  | zero => simp [fN]
  | succ k ih => rw [fN, show 2 ^ (k + 1) * m = 2 ^ k * (2 * m) by rw [Nat.pow_succ, Nat.mul_assoc], ih, fS_even]
theorem fS_lt {r : Nat} (h : r < 4294967296) : fS r < 4294967296 := by
  unfold fS
  split
  · exact Nat.xor_lt_two_pow (n := 32) (by omega) (by omega)
  · omega
theorem fN_lt {r : Nat} (k : Nat) (h : r < 4294967296) : fN k r < 4294967296 := by
  induction k with
  | zero => exact h
  | succ k ih => exact fS_lt ih
/-- What is ahead of the last n bits, and these. -/
theorem split_bits (s n : Nat) : s = (2 ^ n * (s / 2 ^ n)) ^^^ (s % 2 ^ n) := by
  apply Nat.eq_of_testBit_eq; intro i
  rw [Nat.testBit_xor, Nat.testBit_mod_two_pow, Nat.testBit_two_pow_mul, Nat.testBit_div_two_pow]
  by_cases h : n ≤ i
  · have h2 : ¬ i < n := by omega
    simp [h, h2]
  · have h2 : i < n := by omega
    simp [h, h2]
def halvesN : List Nat := [0, 274646895, 549293790, 820201905, 1098587580, 1361435347, 1640403810, 1905808397, 2197175160, 2460548119, 2722870694, 2987750089, 3280807620, 3553878443, 3811616794, 4084100981]
/-- Four bits at once, by the table. -/
def nib (s : Nat) : Nat := (s / 16) ^^^ halvesN.getD (s % 16) 0
theorem nib_low : ∀ t : Fin 16, fN 4 t.val = halvesN.getD t.val 0 := by decide +kernel
theorem nib_eq (s : Nat) : nib s = fN 4 s := by
  have h := split_bits s 4
  have h2 : fN 4 s = fN 4 ((2 ^ 4 * (s / 2 ^ 4)) ^^^ (s % 2 ^ 4)) := by rw [← h]
  rw [h2, fN_xor, fN_shift, nib, ← nib_low ⟨s % 16, by omega⟩]
theorem nib2_eq (s : Nat) : nib (nib s) = fN 8 s := by rw [nib_eq, nib_eq, ← fN_add]
theorem and15 (s : Nat) : s &&& 15 = s % 16 := Nat.and_two_pow_sub_one_eq_mod s 4
/-- The register behind one byte more; behind some. -/
def byteS (s : Nat) (b : Int) : Nat := fN 8 (s ^^^ b.toNat)
def reg (s : Nat) (xs : List Int) : Nat := xs.foldl byteS s
theorem reg_nil (s : Nat) : reg s [] = s := by unfold reg; rw [List.foldl_nil]
theorem reg_cons (s : Nat) (b : Int) (l : List Int) : reg s (b :: l) = reg (byteS s b) l := by unfold reg; rw [List.foldl_cons]
theorem reg_app (s : Nat) (a b : List Int) : reg s (a ++ b) = reg (reg s a) b := by unfold reg; rw [List.foldl_append]
theorem reg_lt {s : Nat} {xs : List Int} (h : s < 4294967296) (hx : BytesOk xs) : reg s xs < 4294967296 := by
  induction xs generalizing s with
  | nil => rw [reg_nil]; exact h
  | cons x xs ih =>
    have hb := hx x (List.mem_cons_self)
    rw [reg_cons]
    exact ih (fN_lt 8 (Nat.xor_lt_two_pow (n := 32) h (by omega))) (fun y hy => hx y (List.mem_cons_of_mem _ hy))
/-- The sum. -/
def sumB (xs : List Int) : Int := 4294967295 - (reg 4294967295 xs : Int)
theorem take_succ_getD (xs : List Int) (k : Nat) (h : k < xs.length) : xs.take (k + 1) = xs.take k ++ [xs.getD k 0] := by
  rw [List.take_add_one]; simp [List.getD, h]
end Go.Proofs.YtboofamenpcnhaaGreatDoor
