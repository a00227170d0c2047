/- Own contracts: what the eye's number reader does. No statement is proved here. -/
import Derived.Test.YtokjlhpkjebnkaaTake
namespace Go.Proofs.Ytokjlhpkjebnkaa
open Go.RowKit
set_option linter.unusedVariables false

theorem pow_le_of {k n m : Nat} (h : m * 128 ^ k ≤ n) (hm : 1 ≤ m) (hn : n < 9223372036854775808) : k ≤ 8 := by
  rcases Nat.lt_or_ge k 9 with h9 | h9
  · omega
  · have h1 := Nat.pow_le_pow_right (show 0 < 128 by omega) h9
    have h2 : 128 ^ k ≤ m * 128 ^ k := Nat.le_mul_of_pos_left _ (by omega)
    have h3 : (128 : Nat) ^ 9 = 9223372036854775808 := by decide
    omega

theorem two_pow (k : Nat) : (2 : Int) ^ (7 * k) = ((128 ^ k : Nat) : Int) := by
  rw [Int.natCast_pow, Int.pow_mul]; rfl

/-- A digit more, where nothing wraps. -/
theorem digit_more {acc d k n : Nat} (h : acc + d * 128 ^ k ≤ n) (hn : n < 9223372036854775808) : wrap64 ((acc : Int) + wrap64 ((d : Int) * 2 ^ (7 * k))) = ((acc + d * 128 ^ k : Nat) : Int) := by
  have e : (d : Int) * 2 ^ (7 * k) = ((d * 128 ^ k : Nat) : Int) := by rw [two_pow, Int.natCast_mul]
  rw [e, IntWalk.wrap64_in ((d * 128 ^ k : Nat) : Int) ⟨by omega, by omega⟩, IntWalk.wrap64_in _ ⟨by omega, by omega⟩]; omega

theorem number_step {n acc m k N : Nat} {l rest : List Int} (h1 : n = acc + m * 128 ^ k) (h2 : acc < 128 ^ k) (hm : ¬ m < 128) (h3 : l.drop k = numB m ++ rest) (h4 : k + (numB m).length = N) :
    n = (acc + m % 128 * 128 ^ k) + m / 128 * 128 ^ (k + 1) ∧ acc + m % 128 * 128 ^ k < 128 ^ (k + 1) ∧ 1 ≤ m / 128 ∧ l.drop (k + 1) = numB (m / 128) ++ rest ∧ k + 1 + (numB (m / 128)).length = N := by
  have hr : m % 128 < 128 := Nat.mod_lt _ (by omega)
  refine ⟨?_, ?_, by omega, ?_, ?_⟩
  · have e : m * 128 ^ k = m % 128 * 128 ^ k + m / 128 * 128 ^ (k + 1) := by
      rw [Nat.pow_succ, Nat.mul_comm (128 ^ k) 128, ← Nat.mul_assoc, ← Nat.add_mul]
      congr 1; omega
    omega
  · have h5 : m % 128 * 128 ^ k ≤ 127 * 128 ^ k := Nat.mul_le_mul_right _ (by omega)
    rw [Nat.pow_succ]; omega
  · rw [← List.drop_drop, h3, numB_big hm]; rfl
  · rw [numB_big hm] at h4; simp at h4; omega

def NumberIs (n l : Nat) (f : Int) (w : World) (e : Ending) (w' : World) : Prop := e = .returned (.tuple #[.int .i64 (n : Int), .int .i64 (l : Int), .int .i64 f]) ∧ w = w'

set_option maxHeartbeats 800000 in
set_option maxRecDepth 100000 in
theorem number_ok (v : Value) (n : Nat) (rest : List Int) (w : World) (hn : n < 9223372036854775808) (hr : Reads w v (numB n ++ rest)) (hl : (numB n ++ rest).length ≤ 70000000000000) :
    Calls Try.prog 63 #[v] w (NumberIs n (numB n).length 0 w) := by
  have hp := numB_pos n
  rcases hr with ⟨_, h⟩ | ⟨g, o, cap, rfl, hc, hcell⟩
  · have h1 := congrArg List.length h; rw [List.length_append] at h1; simp only [List.length_nil] at h1; omega
  · have HC := Lib.hid hcell
    clear hcell
    obtain ⟨L, hL⟩ : ∃ L, (numB n ++ rest).length = L := ⟨_, rfl⟩
    have HL := Lib.hid hL
    rw [hL] at hc hl
    simp only [hL]
    clear hL
    go_enter Try.func63, Try.ntmps63
    go_wp2_with fail
    go_loop [2, 9] (fun t i => ∃ k acc m : Nat, i = .int .i64 (k : Int) ∧ t = .int .i64 (acc : Int) ∧ n = acc + m * 128 ^ k ∧ acc < 128 ^ k ∧ (k = 0 ∨ 1 ≤ m) ∧ (numB n ++ rest).drop k = numB m ++ rest ∧ k + (numB m).length = (numB n).length) (fun _ i => L - (intOf i).toNat)
    case atStart => exact ⟨0, 0, n, rfl, rfl, by simp, by simp, .inl rfl, by simp, by simp⟩
    case round =>
      obtain ⟨k, acc, m, rfl, rfl, hnm, hacc, hk, hd, hlen⟩ := hrel
      have hmp := numB_pos m
      have hkL : k < L := by rw [← HL.out]; simp; omega
      have hk8 : k ≤ 8 := by
        rcases hk with rfl | hk
        · omega
        · exact pow_le_of (by omega) hk hn
      have NM := Lib.hid hnm
      have HD := Lib.hid hd
      have LN := Lib.hid hlen
      clear hnm hd hlen
      have hcl := HC.out k (by rw [HL.out]; exact hkL)
      have hx : (numB n ++ rest).getD k 0 = (numB m).getD 0 0 := by
        have := congrArg (fun l : List Int => l.getD 0 0) HD.out
        simp only [List.getD, List.getElem?_drop, Nat.add_zero] at this
        rw [List.getElem?_append_left hmp] at this
        exact this
      by_cases hm : m < 128
      · rw [hx, numB_small hm] at hcl
        simp only [List.getD, List.getElem?_cons_zero, Option.getD_some] at hcl
        have E := Lib.hid (digit_more (acc := acc) (d := m) (k := k) (n := n) (by have := NM.out; omega) hn)
        have LN1 : (numB n).length = k + 1 := by rw [← LN.out, numB_small hm]; rfl
        have LN2 := Lib.hid LN1
        clear hx LN1
        by_cases hm0 : m = 0
        · have hk0 : k < 1 := by omega
          have hkb : decide ((0 : Int) < (k : Int)) = false := by simp; omega
          have hb : ((m : Int) + 128 == 128) = true := by simp; omega
          clear hm0
          go_wp2_with fail
          go_ret3
          refine ⟨?_, rfl⟩
          rw [LN2.out]
          simp only [E.out, ← NM.out]
          rfl
        · have hm1 : 1 ≤ m := by omega
          have hb : ((m : Int) + 128 == 128) = false := by simp; omega
          go_wp2_with fail
          go_ret3
          refine ⟨?_, rfl⟩
          rw [LN2.out]
          simp only [E.out, ← NM.out]
          rfl
      · rw [hx, numB_big hm] at hcl
        simp only [List.getD, List.getElem?_cons_zero, Option.getD_some] at hcl
        clear hx
        have E := Lib.hid (digit_more (acc := acc) (d := m % 128) (k := k) (n := n) (by have := NM.out; have h1 : m % 128 * 128 ^ k ≤ m * 128 ^ k := Nat.mul_le_mul_right _ (Nat.mod_le _ _); omega) hn)
        go_wp2_with fail
        go_round
        case rel =>
          obtain ⟨s1, s2, s3, s4, s5⟩ := number_step NM.out hacc hm HD.out LN.out
          have e1 : wrap64 ((acc : Int) + wrap64 ((m : Int) % 128 * 2 ^ (7 * k))) = ((acc + m % 128 * 128 ^ k : Nat) : Int) := E.out
          exact ⟨k + 1, acc + m % 128 * 128 ^ k, m / 128, by go_num, by rw [e1], s1, s2, .inr s3, s4, s5⟩
        case measure => simp [intOf]; omega

set_option maxHeartbeats 800000 in
set_option maxRecDepth 100000 in
/-- Digits of which none is the last. -/
theorem number_short (v : Value) (xs : List Int) (w : World) (hr : Reads w v xs) (hl : xs.length ≤ 9) (hx : ∀ i, i < xs.length → 0 ≤ xs.getD i 0 ∧ xs.getD i 0 < 128) :
    Calls Try.prog 63 #[v] w (NumberIs 0 0 6 w) := by
  rcases hr with ⟨rfl, h⟩ | ⟨g, o, cap, rfl, hc, hcell⟩
  · go_enter Try.func63, Try.ntmps63
    go_wp2_with fail
    refine wp_loop_rounds 1 ?_
    rw [rounds_succ]
    go_wp2_with fail
    go_ret3
    exact ⟨rfl, rfl⟩
  · have HC := Lib.hid hcell
    have HX := Lib.hid hx
    clear hcell hx
    obtain ⟨L, hL⟩ : ∃ L, xs.length = L := ⟨_, rfl⟩
    have HL := Lib.hid hL
    rw [hL] at hc hl
    simp only [hL]
    clear hL
    go_enter Try.func63, Try.ntmps63
    go_wp2_with fail
    go_loop [2, 9] (fun t i => ∃ (k : Nat) (acc : Int), k ≤ L ∧ i = .int .i64 (k : Int) ∧ t = .int .i64 acc) (fun _ i => L - (intOf i).toNat)
    case atStart => exact ⟨0, 0, Nat.zero_le _, rfl, rfl⟩
    case round =>
      obtain ⟨k, acc, hk, rfl, rfl⟩ := hrel
      by_cases hlt : k < L
      · have hcl := HC.out k (by rw [HL.out]; exact hlt)
        obtain ⟨hx0, hx1⟩ := HX.out k (by rw [HL.out]; exact hlt)
        generalize xs.getD k 0 = x at hcl hx0 hx1
        go_wp2_with fail
        go_round
        case rel => exact ⟨k + 1, _, by omega, by go_num, rfl⟩
        case measure => simp [intOf]; omega
      · go_wp2_with fail
        go_ret3
        exact ⟨rfl, rfl⟩
end Go.Proofs.Ytokjlhpkjebnkaa
