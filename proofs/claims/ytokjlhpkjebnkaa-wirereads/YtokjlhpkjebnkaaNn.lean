/- Own contracts: bytes that begin with no number. No statement is proved here. -/
import Derived.Test.YtokjlhpkjebnkaaWg
namespace Go.Proofs.Ytokjlhpkjebnkaa
set_option maxRecDepth 100000
open Go.RowKit
set_option linter.unusedVariables false
set_option linter.unusedSimpArgs false


/-- Bytes that begin with no number: none of the numbers that there are. -/
def NoNum (xs : List Int) : Prop := ∀ (n : Nat) (rest : List Int), n < 9223372036854775808 → xs ≠ numB n ++ rest
def Bytes8 (xs : List Int) : Prop := ∀ x ∈ xs, 0 ≤ x ∧ x ≤ 255
/-- Bytes as far as a number's digits go: k digits below 128 behind which the number m goes on. -/
theorem digits_num : ∀ (ds : List Int) (m : Nat), (∀ d ∈ ds, 0 ≤ d ∧ d < 128) → 1 ≤ m ∨ ds = [] → ∃ n : Nat, numB n = ds ++ numB m ∧ n < (m + 1) * 128 ^ ds.length ∧ m * 128 ^ ds.length ≤ n
  | [], m, _, _ => ⟨m, by simp, by simp, by simp⟩
  | d :: ds, m, h, hm => by
    have hd := h d List.mem_cons_self
    have hm1 : 1 ≤ m := by rcases hm with h | h; exact h; cases h
    obtain ⟨n, h1, h2, h3⟩ := digits_num ds m (fun x hx => h x (List.mem_cons_of_mem _ hx)) (.inl hm1)
    have hn1 : 1 ≤ n := by
      have : 1 ≤ m * 128 ^ ds.length := Nat.mul_pos hm1 (Nat.pow_pos (by omega))
      omega
    refine ⟨d.toNat + n * 128, ?_, ?_, ?_⟩
    · rw [numB_big (by omega)]
      have e1 : (d.toNat + n * 128) % 128 = d.toNat := by omega
      have e2 : (d.toNat + n * 128) / 128 = n := by omega
      rw [e1, e2, h1]
      simp only [List.cons_append, List.cons.injEq, and_true]
      omega
    · rw [List.length_cons, Nat.pow_succ, ← Nat.mul_assoc]
      omega
    · rw [List.length_cons, Nat.pow_succ, ← Nat.mul_assoc]
      omega
theorem take_len {xs : List Int} {k : Nat} (h : k ≤ xs.length) : (xs.take k).length = k := by simp; omega
theorem drop_head {xs : List Int} {k : Nat} (h : k < xs.length) : xs.drop k = xs.getD k 0 :: xs.drop (k + 1) := by
  rw [List.drop_eq_getElem_cons h]
  simp [List.getD, h]
/-- At a last digit a number ends. -/
theorem num_ends {xs : List Int} (hb : Bytes8 xs) {k : Nat} (hk : k < xs.length) (hk8 : k ≤ 8) (hd : ∀ j, j < k → 0 ≤ xs.getD j 0 ∧ xs.getD j 0 < 128) (hl : 128 ≤ xs.getD k 0) (h0 : xs.getD k 0 ≠ 128 ∨ k = 0) : ¬ NoNum xs := by
  have hx := hb (xs.getD k 0) (by simp [List.getD, hk])
  obtain ⟨m, hm⟩ : ∃ m : Nat, xs.getD k 0 = (m : Int) + 128 := ⟨(xs.getD k 0 - 128).toNat, by omega⟩
  have hm128 : m < 128 := by omega
  obtain ⟨n, h1, h2, h3⟩ := digits_num (xs.take k) m (fun d hd' => by
    obtain ⟨i, hi, rfl⟩ := List.getElem_of_mem hd'
    have hi2 : i < k := by rw [List.length_take] at hi; omega
    have := hd i hi2
    simpa [List.getD, show i < xs.length by omega] using this) (by
      rcases h0 with h | h
      · left; omega
      · right; subst h; simp)
  intro hno
  rw [take_len (by omega)] at h2
  refine hno n (xs.drop (k + 1)) ?_ ?_
  · have hp := Nat.pow_le_pow_right (show 0 < 128 by omega) hk8
    have h8 : (m + 1) * 128 ^ k ≤ 128 * 128 ^ 8 := Nat.mul_le_mul (by omega) hp
    have h9 : 128 * 128 ^ 8 = 9223372036854775808 := by decide
    omega
  · rw [h1, numB_small hm128, List.append_assoc, ← hm]
    show xs = xs.take k ++ (xs.getD k 0 :: xs.drop (k + 1))
    rw [← drop_head hk, List.take_append_drop]
def NumberNot (w : World) (e : Ending) (w' : World) : Prop := (∃ f : Int, f ≠ 0 ∧ e = .returned (.tuple #[.int .i64 0, .int .i64 0, .int .i64 f])) ∧ w = w'
set_option maxHeartbeats 1600000 in
/-- Bytes that begin with no number are refused. -/
theorem number_not (v : Value) (xs : List Int) (w : World) (hr : Reads w v xs) (hl : xs.length ≤ 70000000000000) (hb : Bytes8 xs) (hno : NoNum xs) : Calls Try.prog 63 #[v] w (NumberNot w) := by
  rcases hr with ⟨rfl, h⟩ | ⟨g, o, cap, rfl, hc, hcell⟩
  · go_enter Try.func63, Try.ntmps63
    go_wp2_with fail
    refine wp_loop_rounds 1 ?_
    rw [rounds_succ]
    go_wp2_with fail
    go_ret3
    exact ⟨⟨6, by decide, rfl⟩, rfl⟩
  · have HC := Lib.hid hcell
    have HB := Lib.hid hb
    have HNO := Lib.hid hno
    obtain ⟨L, hL⟩ : ∃ L, xs.length = L := ⟨_, rfl⟩
    have HL := Lib.hid hL
    rw [hL] at hc hl
    simp only [hL]
    clear hL hcell hb hno
    go_enter Try.func63, Try.ntmps63
    go_wp2_with fail
    go_loop [2, 9] (fun t i => ∃ (k : Nat) (acc : Int), k ≤ L ∧ k ≤ 9 ∧ i = .int .i64 (k : Int) ∧ t = .int .i64 acc ∧ ∀ j, j < k → 0 ≤ xs.getD j 0 ∧ xs.getD j 0 < 128) (fun _ i => L - (intOf i).toNat)
    case atStart => exact ⟨0, 0, Nat.zero_le _, by omega, rfl, rfl, fun j hj => by omega⟩
    case round =>
      obtain ⟨k, acc, hk, hk9, rfl, rfl, hds⟩ := hrel
      have HDS := Lib.hid hds
      clear hds
      by_cases hlt : k < L
      · have hcl := HC.out k (by rw [HL.out]; exact hlt)
        have hx := HB.out (xs.getD k 0) (by simp [List.getD, show k < xs.length by rw [HL.out]; exact hlt])
        obtain ⟨x, hxe⟩ : ∃ x, xs.getD k 0 = x := ⟨_, rfl⟩
        rw [hxe] at hcl hx
        have HX := Lib.hid hxe
        have dk : decide ((k : Int) < (L : Int)) = true := decide_eq_true (by omega)
        clear hxe
        by_cases h9 : k = 9
        · have e9 : ((k : Int) == 9) = true := by simp; omega
          have e8 : (k : Int) = 9 := by omega
          rw [h9] at hcl
          go_wp2_with fail
          go_ret3
          exact ⟨⟨7, by decide, rfl⟩, rfl⟩
        · have e9 : ((k : Int) == 9) = false := by simp; omega
          by_cases h128 : x < 128
          · have e1 : decide (x < 128) = true := decide_eq_true h128
            go_wp2_with fail
            go_round
            case rel => exact ⟨k + 1, _, by omega, by omega, by go_num, rfl, fun j hj => by
              by_cases e : j = k
              · subst e; rw [HX.out]; exact ⟨hx.1, h128⟩
              · exact HDS.out j (by omega)⟩
            case measure => simp [intOf]; omega
          · have e1 : decide (x < 128) = false := decide_eq_false h128
            by_cases hz : x = 128 ∧ 0 < k
            · have e2 : (x == 128) = true := by simp [hz.1]
              have e3 : decide ((0 : Int) < (k : Int)) = true := decide_eq_true (by omega)
              have e4 : decide (0 < k) = true := decide_eq_true hz.2
              obtain ⟨rfl, hk0⟩ := hz
              go_wp2_with fail
              go_ret3
              exact ⟨⟨7, by decide, rfl⟩, rfl⟩
            · exact absurd HNO.out (num_ends HB.out (by rw [HL.out]; exact hlt) (by omega) HDS.out (by rw [HX.out]; omega) (by rw [HX.out]; omega))
      · have dk : decide ((k : Int) < (L : Int)) = false := decide_eq_false (by omega)
        go_wp2_with fail
        go_ret3
        exact ⟨⟨6, by decide, rfl⟩, rfl⟩
/-- What an Eye is behind a fault. -/
def FaultAt (w : World) (X : Nat) (e : Ending) (w' : World) : Prop := (∃ f : Int, f ≠ 0 ∧ EyeIs w' X (.slice none 0 0) f) ∧ e = .returned (.int .i64 0) ∧ Turn (fun k => k = X) w w'
theorem eye_not (X : Nat) (v : Value) (xs : List Int) (most : Int) (w : World) (h : EyeIs w X v 0) (hr : Reads w v xs) (hl : xs.length ≤ 70000000000000) (hb : Bytes8 xs) (hno : NoNum xs) :
    Calls Try.prog 50 #[.pointer (some ⟨X, 0, none⟩), .int .i64 most] w (FaultAt w X) := by
  have h0 := h.rest
  have HH := Lib.hid h
  have HNO := Lib.hid hno
  have HB := Lib.hid hb
  clear h hno hb
  go_enter Try.func50, Try.ntmps50
  go_wp2_with fail
  refine (fault_any X v 0 _ HH.out).mono ?_
  rintro e w' ⟨rfl, rfl⟩
  go_wp2_with fail
  refine (number_not v xs _ hr hl HB.out HNO.out).mono ?_
  rintro e w' ⟨⟨f, hf, rfl⟩, rfl⟩
  have hf1 : (f == 0) = false := by simpa using hf
  have hf2 : (f != 0) = true := by simpa using hf
  have HF := Lib.hid hf
  clear hf
  go_wp2_with fail
  refine (fail_first X v f _ HH.out HF.out).mono ?_
  rintro e w' ⟨rfl, he, ht⟩
  go_wp2_with fail
  go_ret
  exact ⟨⟨f, HF.out, he⟩, rfl, ht⟩
end Go.Proofs.Ytokjlhpkjebnkaa
