/- Own texts, packed: CBytes, CCrc. -/
import Derived.Test.YtnenkclihgeacaaDoorP01
import Derived.Test.YtnenkclihgeacaaDoorRows
import Derived.Test.YtnenkclihgeacaaDoorP10
import Derived.Lib.Hide
import Derived.Deep.QuietTactic
import Derived.BigQuiet
import Derived.Deep.RegionHeld3
import Derived.Laws.BitsAllLaws
import Derived.WalkKit
/- Own contracts: bytes that are read, and cloned. No statement is proved here. -/
namespace Go.Proofs.YtnenkclihgeacaaDoor
set_option maxRecDepth 100000
open Go.RowKit
set_option linter.unusedVariables false

end Go.Proofs.YtnenkclihgeacaaDoor
/- Own: the sum as a register of 32 bits: one bit at a time, four at a time, eight at a time; it goes with xor, and nothing but nought goes to nought. No statement is proved here. -/
namespace Go.Proofs.YtnenkclihgeacaaDoor
set_option maxRecDepth 100000
set_option linter.unusedVariables false

/-- One bit out of the register. -/
def fS (r : Nat) : Nat := if r % 2 = 1 then (r / 2) ^^^ 2197175160 else r / 2
def fN : Nat → Nat → Nat
  | 0, s => s
  | k + 1, s => fS (fN k s)
theorem fN_add (j k s : Nat) : fN (j + k) s = fN j (fN k s) := by
  induction j with
  | zero => simp [fN]
  | succ j ih => rw [show j + 1 + k = (j + k) + 1 by omega, fN, fN, ih]
theorem xor_mod2 (a b : Nat) : (a ^^^ b) % 2 = (a % 2 + b % 2) % 2 := by
  have h : (a ^^^ b) % 2 = 1 ↔ ¬ ((a % 2 = 1) ↔ (b % 2 = 1)) := Nat.xor_mod_two_eq_one
  omega
theorem xor_div2 (a b : Nat) : (a ^^^ b) / 2 = (a / 2) ^^^ (b / 2) := by
  apply Nat.eq_of_testBit_eq; intro i
  simp [Nat.testBit_xor, Nat.testBit_div_two]
theorem fS_xor (a b : Nat) : fS (a ^^^ b) = fS a ^^^ fS b := by
  unfold fS
  rw [xor_mod2, xor_div2]
  rcases Nat.mod_two_eq_zero_or_one a with ha | ha <;> rcases Nat.mod_two_eq_zero_or_one b with hb | hb <;> simp [ha, hb]
  · rw [Nat.xor_assoc]
  · rw [Nat.xor_assoc, Nat.xor_assoc, Nat.xor_comm (b / 2)]
  · rw [Nat.xor_assoc, Nat.xor_comm (b / 2), ← Nat.xor_assoc 2197175160, Nat.xor_self, Nat.zero_xor]
theorem fN_xor (k a b : Nat) : fN k (a ^^^ b) = fN k a ^^^ fN k b := by
  induction k with
  | zero => rfl
  | succ k ih => rw [fN, fN, fN, ih, fS_xor]
theorem fS_zero : fS 0 = 0 := by decide
theorem fN_zero (k : Nat) : fN k 0 = 0 := by
  induction k with
  | zero => rfl
  | succ k ih => rw [fN, ih, fS_zero]
theorem fS_even (m : Nat) : fS (2 * m) = m := by unfold fS; rw [if_neg (by omega)]; omega
theorem fN_shift (k m : Nat) : fN k (2 ^ k * m) = m := by
  induction k generalizing m with
  | zero => simp [fN]
  | succ k ih => rw [fN, show 2 ^ (k + 1) * m = 2 ^ k * (2 * m) by rw [Nat.pow_succ, Nat.mul_assoc], ih, fS_even]
theorem fS_lt {r : Nat} (h : r < 4294967296) : fS r < 4294967296 := by
  unfold fS
  split
  · exact Nat.xor_lt_two_pow (n := 32) (by omega) (by omega)
  · omega
theorem fN_lt {r : Nat} (k : Nat) (h : r < 4294967296) : fN k r < 4294967296 := by
  induction k with
  | zero => exact h
  | succ k ih => exact fS_lt ih
theorem fS_nought {r : Nat} (h : r < 4294967296) (h0 : fS r = 0) : r = 0 := by
  unfold fS at h0
  split at h0
  · have h1 : r / 2 = 2197175160 := by
      have h2 := congrArg (· ^^^ 2197175160) h0
      simpa [Nat.xor_assoc] using h2
    omega
  · omega
theorem fN_nought {r : Nat} (k : Nat) (h : r < 4294967296) (h0 : fN k r = 0) : r = 0 := by
  induction k with
  | zero => exact h0
  | succ k ih => exact ih (fS_nought (fN_lt k h) h0)

/-- What is ahead of the last n bits, and these. -/
theorem split_bits (s n : Nat) : s = (2 ^ n * (s / 2 ^ n)) ^^^ (s % 2 ^ n) := by
  apply Nat.eq_of_testBit_eq; intro i
  rw [Nat.testBit_xor, Nat.testBit_mod_two_pow, Nat.testBit_two_pow_mul, Nat.testBit_div_two_pow]
  by_cases h : n ≤ i
  · have h2 : ¬ i < n := by omega
    simp [h, h2]
  · have h2 : i < n := by omega
    simp [h, h2]

def halvesN : List Nat := [0, 274646895, 549293790, 820201905, 1098587580, 1361435347, 1640403810, 1905808397, 2197175160, 2460548119, 2722870694, 2987750089, 3280807620, 3553878443, 3811616794, 4084100981]
/-- Four bits at once, by the table. -/
def nib (s : Nat) : Nat := (s / 16) ^^^ halvesN.getD (s % 16) 0
theorem nib_low : ∀ t : Fin 16, fN 4 t.val = halvesN.getD t.val 0 := by decide +kernel
theorem nib_eq (s : Nat) : nib s = fN 4 s := by
  have h := split_bits s 4
  have h2 : fN 4 s = fN 4 ((2 ^ 4 * (s / 2 ^ 4)) ^^^ (s % 2 ^ 4)) := by rw [← h]
  rw [h2, fN_xor, fN_shift, nib, ← nib_low ⟨s % 16, by omega⟩]
theorem nib2_eq (s : Nat) : nib (nib s) = fN 8 s := by rw [nib_eq, nib_eq, ← fN_add]
theorem and15 (s : Nat) : s &&& 15 = s % 16 := Nat.and_two_pow_sub_one_eq_mod s 4

/-- The register behind one byte more; behind some. -/
def byteS (s : Nat) (b : Int) : Nat := fN 8 (s ^^^ b.toNat)
def reg (s : Nat) (xs : List Int) : Nat := xs.foldl byteS s
theorem reg_nil (s : Nat) : reg s [] = s := by unfold reg; rw [List.foldl_nil]
theorem reg_cons (s : Nat) (b : Int) (l : List Int) : reg s (b :: l) = reg (byteS s b) l := by unfold reg; rw [List.foldl_cons]
theorem reg_app (s : Nat) (a b : List Int) : reg s (a ++ b) = reg (reg s a) b := by unfold reg; rw [List.foldl_append]
theorem reg_lt {s : Nat} {xs : List Int} (h : s < 4294967296) (hx : BytesOk xs) : reg s xs < 4294967296 := by
  induction xs generalizing s with
  | nil => rw [reg_nil]; exact h
  | cons x xs ih =>
    have hb := hx x (List.mem_cons_self)
    rw [reg_cons]
    exact ih (fN_lt 8 (Nat.xor_lt_two_pow (n := 32) h (by omega))) (fun y hy => hx y (List.mem_cons_of_mem _ hy))
/-- The sum. -/
def sumB (xs : List Int) : Int := 4294967295 - (reg 4294967295 xs : Int)
theorem sum_nine : sumB [49, 50, 51, 52, 53, 54, 55, 56, 57] = 3808858755 := by decide +kernel

/-- One bit into the register, as the definition has it. -/
def bitS (r one : Nat) : Nat := if r % 2 ≠ one then (r / 2) ^^^ 2197175160 else r / 2
theorem bitS_eq (r one : Nat) (h : one < 2) : bitS r one = fS (r ^^^ one) := by
  have h1 : (r ^^^ one) / 2 = r / 2 := by rw [xor_div2, show one / 2 = 0 by omega, Nat.xor_zero]
  unfold bitS fS
  rw [xor_mod2, h1]
  by_cases hr : r % 2 = one
  · rw [if_neg (by omega), if_neg (by omega)]
  · rw [if_pos hr, if_pos (by omega)]
/-- Behind the first k bits of a byte. -/
def bitsK (r x : Nat) : Nat → Nat
  | 0 => r
  | k + 1 => bitS (bitsK r x k) (x / 2 ^ k % 2)
theorem mod_succ_xor (x k : Nat) : x % 2 ^ (k + 1) = (x % 2 ^ k) ^^^ (2 ^ k * (x / 2 ^ k % 2)) := by
  have h := split_bits (x % 2 ^ (k + 1)) k
  rw [h, Nat.xor_comm]
  congr 1
  · exact Nat.mod_mod_of_dvd x (Nat.pow_dvd_pow 2 (by omega))
  · rw [Nat.pow_succ, Nat.mod_mul_right_div_self]
theorem bitsK_eq (r x k : Nat) : bitsK r x k = fN k (r ^^^ (x % 2 ^ k)) := by
  induction k with
  | zero => simp [bitsK, fN, Nat.mod_one]
  | succ k ih =>
    have hm : x / 2 ^ k % 2 = fN k (2 ^ k * (x / 2 ^ k % 2)) := (fN_shift k _).symm
    rw [bitsK, bitS_eq _ _ (by omega), ih, fN]
    congr 1
    rw [mod_succ_xor, ← Nat.xor_assoc, fN_xor k (r ^^^ x % 2 ^ k), fN_shift]
theorem bits8_eq (r x : Nat) (h : x < 256) : bitsK r x 8 = fN 8 (r ^^^ x) := by rw [bitsK_eq, Nat.mod_eq_of_lt (by omega)]
/-- Behind i bits of some bytes. -/
def regBits (s : Nat) (xs : List Int) (i : Nat) : Nat := bitsK (reg s (xs.take (i / 8))) (xs.getD (i / 8) 0).toNat (i % 8)
theorem take_succ_getD (xs : List Int) (k : Nat) (h : k < xs.length) : xs.take (k + 1) = xs.take k ++ [xs.getD k 0] := by
  rw [List.take_add_one]; simp [List.getD, h]
theorem regBits_zero (s : Nat) (xs : List Int) : regBits s xs 0 = s := by simp [regBits, reg_nil, bitsK]
theorem regBits_all (s : Nat) (xs : List Int) : regBits s xs (8 * xs.length) = reg s xs := by
  unfold regBits
  rw [show 8 * xs.length / 8 = xs.length by omega, show 8 * xs.length % 8 = 0 by omega, bitsK, List.take_length]
theorem regBits_succ (s : Nat) (xs : List Int) (i : Nat) (hx : BytesOk xs) (h : i < 8 * xs.length) :
    regBits s xs (i + 1) = bitS (regBits s xs i) ((xs.getD (i / 8) 0).toNat / 2 ^ (i % 8) % 2) := by
  have hk : i / 8 < xs.length := by omega
  have hm : xs.getD (i / 8) 0 ∈ xs := by simp [List.getD, hk]
  have hb := hx _ hm
  by_cases h7 : i % 8 = 7
  · have e1 : (i + 1) / 8 = i / 8 + 1 := by omega
    have e2 : (i + 1) % 8 = 0 := by omega
    have e3 : bitS (regBits s xs i) ((xs.getD (i / 8) 0).toNat / 2 ^ (i % 8) % 2) = bitsK (reg s (xs.take (i / 8))) (xs.getD (i / 8) 0).toNat 8 := by
      unfold regBits; rw [h7]; rfl
    rw [e3, bits8_eq _ _ (by omega)]
    unfold regBits
    rw [e1, e2, bitsK, take_succ_getD xs _ hk, reg_app, reg_cons, reg_nil, byteS]
  · have e1 : (i + 1) / 8 = i / 8 := by omega
    have e2 : (i + 1) % 8 = i % 8 + 1 := by omega
    unfold regBits
    rw [e1, e2, bitsK]
theorem bitS_lt {r one : Nat} (h : r < 4294967296) : bitS r one < 4294967296 := by
  unfold bitS
  split
  · exact Nat.xor_lt_two_pow (n := 32) (by omega) (by omega)
  · omega
theorem regBits_lt {s : Nat} (xs : List Int) (hx : BytesOk xs) (h : s < 4294967296) : ∀ i, i ≤ 8 * xs.length → regBits s xs i < 4294967296 := by
  intro i
  induction i with
  | zero => intro _; rw [regBits_zero]; exact h
  | succ i ih => intro hi; rw [regBits_succ s xs i hx (by omega)]; exact bitS_lt (ih (by omega))
end Go.Proofs.YtnenkclihgeacaaDoor
