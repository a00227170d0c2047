/- Own texts, packed: Q27. -/
import Derived.Test.YtboofamenpcnhaaGreatDoorV17
import Derived.Test.YtboofamenpcnhaaGreatDoorV18
namespace Go.Proofs.YtboofamenpcnhaaGreatDoor
set_option maxRecDepth 100000
open Go.RowKit
set_option linter.unusedVariables false
set_option linter.unusedSimpArgs false
theorem i64_or_nat (a b : Nat) (ha : a < 4294967296) (hb : b < 4294967296) : bits .or .i64 (a : Int) (b : Int) = ((a ||| b : Nat) : Int) := by
  have hx : a ||| b < 2 ^ 32 := Nat.or_lt_two_pow (by omega) (by omega)
  show IntKind.i64.wrap ((BitVec.ofInt 64 (a : Int) ||| BitVec.ofInt 64 (b : Int)).toNat : Int) = _
  rw [BitVec.toNat_or, BitVec.ofInt_natCast, BitVec.ofInt_natCast, BitVec.toNat_ofNat, BitVec.toNat_ofNat, Nat.mod_eq_of_lt (by omega), Nat.mod_eq_of_lt (by omega), IntKind.wrap_i64]
  omega
/-- The four lowest bytes of a number. -/
def fourB (n : Int) : List Int := [n % 256, n / 256 % 256, n / 65536 % 256, n / 16777216 % 256]
theorem fourB_ok (n : Int) : BytesOk (fourB n) := by
  intro x hx
  simp only [fourB, List.mem_cons, List.not_mem_nil, or_false] at hx
  omega
/-- New bytes: what a call made, and told. -/
def Made (w : World) (xs : List Int) (e : Ending) (w' : World) : Prop :=
  ∃ v, e = .returned v ∧ Reads w' v xs ∧ (∀ k, v.ownBlock = some k → w.heap.size ≤ k) ∧ Turn (fun _ => False) w w'
theorem reads_block {w : World} {g : Nat} {xs : List Int} {ty : TypeId} {f : Nat × Nat} (h : w.heap[g]? = some (.cells (xs.map (Value.int .u8)).toArray ty f)) (n : Nat) (hn : xs.length = n) : Reads w (.slice (some ⟨g, 0, none⟩) n n) xs := by
  subst hn
  refine .inr ⟨g, 0, xs.length, rfl, Nat.le_refl _, fun i hi => ?_⟩
  rw [Nat.zero_add, cell_of_row w g i _ ty f h]
  simp [List.getD, hi]
set_option maxHeartbeats 800000 in
set_option maxRecDepth 100000 in
theorem four_any (n : Int) (w : World) : Calls Tryz.prog 85 #[.int .i64 n] w (Made w (fourB n)) := by
  go_enter Tryz.func85, Tryz.ntmps85
  go_wp2_with fail
  go_ret
  refine ⟨_, rfl, reads_block (xs := fourB n) (heap_alloc_new w _) 4 rfl, fun k hk => ?_, (Turn.refl _ w).alloc _⟩
  have : w.heap.size = k := by simpa [Value.ownBlock] using hk
  omega
/-- The number of the first four bytes. -/
def numK (xs : List Int) : Nat → Nat
  | 0 => 0
  | k + 1 => numK xs k + 256 ^ k * (xs.getD k 0).toNat
theorem numK_lt (xs : List Int) (hx : BytesOk xs) : ∀ k, k ≤ xs.length → numK xs k < 256 ^ k := by
  intro k
  induction k with
  | zero => intro _; simp [numK]
  | succ k ih =>
    intro hk
    have h1 := ih (by omega)
    have hm : xs.getD k 0 ∈ xs := by simp [List.getD, show k < xs.length by omega]
    have hb := hx _ hm
    have h2 : 256 ^ k * (xs.getD k 0).toNat ≤ 256 ^ k * 255 := Nat.mul_le_mul_left _ (by omega)
    rw [numK, Nat.pow_succ]
    omega
theorem or_step (a b k : Nat) (ha : a < 256 ^ k) : a ||| (b * 2 ^ (8 * k)) = a + 256 ^ k * b := by
  have e : (256 : Nat) ^ k = 2 ^ (8 * k) := by rw [show 256 = 2 ^ 8 by rfl, ← Nat.pow_mul]
  rw [e] at ha ⊢
  rw [Nat.or_comm, Nat.mul_comm b, ← Nat.two_pow_add_eq_or_of_lt ha b, Nat.add_comm]
set_option maxHeartbeats 800000 in
set_option maxRecDepth 100000 in
theorem number_any (v : Value) (xs : List Int) (w : World) (hv : Src w v xs) (hx : BytesOk xs) :
    Calls Tryz.prog 45 #[v] w fun e w' => e = .returned (.int .i64 ((numK xs (min xs.length 4) : Nat) : Int)) ∧ w' = w := by
  obtain ⟨a, c, rfl, hc⟩ := src_any hv
  have HC := Lib.hid hc
  have HX := Lib.hid hx
  clear hc hv hx
  obtain ⟨L, hL⟩ : ∃ L, xs.length = L := ⟨_, rfl⟩
  have HL := Lib.hid hL
  simp only [hL]
  clear hL
  have hLc : L ≤ c := by
    by_cases h0 : 0 < L
    · have := (HC.out (by rw [HL.out]; exact h0)).1
      rw [HL.out] at this; exact this
    · omega
  by_cases h4 : L ≤ 4
  · rw [Nat.min_eq_left h4]
    go_enter Tryz.func45, Tryz.ntmps45
    go_wp2_with fail
    go_loop [3, 12] (fun sv iv => ∃ (k : Nat), k ≤ L ∧ iv = .int .i64 (k : Int) ∧ sv = .int .i64 ((numK xs k : Nat) : Int)) (fun _ i => L - (intOf i).toNat)
    case atStart => exact ⟨0, Nat.zero_le _, rfl, rfl⟩
    case round =>
      obtain ⟨k, hk, rfl, rfl⟩ := hrel
      by_cases hlt : k < L
      · obtain ⟨hcap, g, o, rfl, hcell⟩ := HC.out (by rw [HL.out]; omega)
        have hcl := hcell k (by rw [HL.out]; omega)
        have hmm : xs.getD k 0 ∈ xs := by have := HL.out; simp [List.getD, show k < xs.length by omega]
        obtain ⟨b, hb⟩ := Int.eq_ofNat_of_zero_le (HX.out _ hmm).1
        have hb2 := (HX.out _ hmm).2
        have HB := Lib.hid hb
        rw [hb] at hcl hb2
        clear hcell hmm hb
        have hblt : b < 256 := by omega
        have hlk := numK_lt xs HX.out k (by rw [HL.out]; omega)
        have hk3 : k ≤ 3 := by omega
        have hpow : b * 2 ^ (8 * k) < 4294967296 := by
          have h1 : (2 : Nat) ^ (8 * k) ≤ 2 ^ 24 := Nat.pow_le_pow_right (by omega) (by omega)
          have h2 : b * 2 ^ (8 * k) ≤ 255 * 2 ^ 24 := Nat.mul_le_mul (by omega) h1
          omega
        have hacc : numK xs k < 4294967296 := by
          have h1 : (256 : Nat) ^ k ≤ 256 ^ 4 := Nat.pow_le_pow_right (by omega) (by omega)
          omega
        have hor := i64_or_nat (numK xs k) (b * 2 ^ (8 * k)) hacc hpow
        rw [or_step _ _ _ hlk] at hor
        have HO := Lib.hid hor
        clear hor
        have hw : wrap64 ((b : Int) * 2 ^ (8 * k)) = ((b * 2 ^ (8 * k) : Nat) : Int) := by
          rw [show (b : Int) * 2 ^ (8 * k) = ((b * 2 ^ (8 * k) : Nat) : Int) by rw [Int.natCast_mul, Int.natCast_pow]; rfl]
          exact IntWalk.wrap64_in _ ⟨by omega, by omega⟩
        have HW := Lib.hid hw
        clear hw
        go_wp2_with fail
        go_round
        case rel =>
          refine ⟨k + 1, by omega, by go_num, ?_⟩
          show Value.int .i64 (bits .or .i64 ((numK xs k : Nat) : Int) (wrap64 ((b : Int) * 2 ^ (8 * k)))) = _
          rw [HW.out, HO.out, numK, HB.out]; rfl
        case measure => simp [intOf]; omega
      · go_wp2_with fail
        go_ret
        refine ⟨?_, rfl⟩
        obtain rfl : k = L := by omega
        rfl
  · rw [Nat.min_eq_right (by omega)]
    go_enter Tryz.func45, Tryz.ntmps45
    go_wp2_with fail
    go_loop [3, 12] (fun sv iv => ∃ (k : Nat), k ≤ 4 ∧ iv = .int .i64 (k : Int) ∧ sv = .int .i64 ((numK xs k : Nat) : Int)) (fun _ i => 4 - (intOf i).toNat)
    case atStart => exact ⟨0, Nat.zero_le _, rfl, rfl⟩
    case round =>
      obtain ⟨k, hk, rfl, rfl⟩ := hrel
      by_cases hlt : k < 4
      · obtain ⟨hcap, g, o, rfl, hcell⟩ := HC.out (by rw [HL.out]; omega)
        have hcl := hcell k (by rw [HL.out]; omega)
        have hmm : xs.getD k 0 ∈ xs := by have := HL.out; simp [List.getD, show k < xs.length by omega]
        obtain ⟨b, hb⟩ := Int.eq_ofNat_of_zero_le (HX.out _ hmm).1
        have hb2 := (HX.out _ hmm).2
        have HB := Lib.hid hb
        rw [hb] at hcl hb2
        clear hcell hmm hb
        have hblt : b < 256 := by omega
        have hlk := numK_lt xs HX.out k (by rw [HL.out]; omega)
        have hk3 : k ≤ 3 := by omega
        have hpow : b * 2 ^ (8 * k) < 4294967296 := by
          have h1 : (2 : Nat) ^ (8 * k) ≤ 2 ^ 24 := Nat.pow_le_pow_right (by omega) (by omega)
          have h2 : b * 2 ^ (8 * k) ≤ 255 * 2 ^ 24 := Nat.mul_le_mul (by omega) h1
          omega
        have hacc : numK xs k < 4294967296 := by
          have h1 : (256 : Nat) ^ k ≤ 256 ^ 4 := Nat.pow_le_pow_right (by omega) (by omega)
          omega
        have hor := i64_or_nat (numK xs k) (b * 2 ^ (8 * k)) hacc hpow
        rw [or_step _ _ _ hlk] at hor
        have HO := Lib.hid hor
        clear hor
        have hw : wrap64 ((b : Int) * 2 ^ (8 * k)) = ((b * 2 ^ (8 * k) : Nat) : Int) := by
          rw [show (b : Int) * 2 ^ (8 * k) = ((b * 2 ^ (8 * k) : Nat) : Int) by rw [Int.natCast_mul, Int.natCast_pow]; rfl]
          exact IntWalk.wrap64_in _ ⟨by omega, by omega⟩
        have HW := Lib.hid hw
        clear hw
        go_wp2_with fail
        go_round
        case rel =>
          refine ⟨k + 1, by omega, by go_num, ?_⟩
          show Value.int .i64 (bits .or .i64 ((numK xs k : Nat) : Int) (wrap64 ((b : Int) * 2 ^ (8 * k)))) = _
          rw [HW.out, HO.out, numK, HB.out]; rfl
        case measure => simp [intOf]; omega
      · go_wp2_with fail
        go_ret
        refine ⟨?_, rfl⟩
        obtain rfl : k = 4 := by omega
        rfl
/-- The same number, the highest byte first. -/
theorem num_min (xs : List Int) : numK xs (min xs.length 4) = numK xs 4 := by
  have hz : ∀ i, xs.length ≤ i → (xs.getD i 0).toNat = 0 := fun i hi => by simp [List.getD, List.getElem?_eq_none hi]
  by_cases h : 4 ≤ xs.length
  · rw [Nat.min_eq_right h]
  · rw [Nat.min_eq_left (by omega)]
    generalize hl : xs.length = l at h hz
    obtain rfl | rfl | rfl | rfl : l = 0 ∨ l = 1 ∨ l = 2 ∨ l = 3 := by omega
    · simp only [numK, hz 0 (by omega), hz 1 (by omega), hz 2 (by omega), hz 3 (by omega)]
    · simp only [numK, hz 1 (by omega), hz 2 (by omega), hz 3 (by omega)]; omega
    · simp only [numK, hz 2 (by omega), hz 3 (by omega)]; omega
    · simp only [numK, hz 3 (by omega)]; omega
theorem num_four (n : Int) : ((numK (fourB n) 4 : Nat) : Int) = n % 4294967296 := by
  simp only [numK, fourB]
  simp only [List.getD_cons_zero, List.getD_cons_succ]
  omega
end Go.Proofs.YtboofamenpcnhaaGreatDoor
