/- Own contracts: numbers of four bytes, and back; the walk of CheckNumbers. -/
import Derived.Test.YtckeackepolhdaaDoorCells
namespace Go.Proofs.YtckeackepolhdaaDoor
open Go.RowKit
set_option linter.unusedVariables false
set_option linter.unusedSimpArgs false

theorem i64_or_nat (a b : Nat) (ha : a < 4294967296) (hb : b < 4294967296) : bits .or .i64 (a : Int) (b : Int) = ((a ||| b : Nat) : Int) := by
  have hx : a ||| b < 2 ^ 32 := Nat.or_lt_two_pow (by omega) (by omega)
  show IntKind.i64.wrap ((BitVec.ofInt 64 (a : Int) ||| BitVec.ofInt 64 (b : Int)).toNat : Int) = _
  rw [BitVec.toNat_or, BitVec.ofInt_natCast, BitVec.ofInt_natCast, BitVec.toNat_ofNat, BitVec.toNat_ofNat, Nat.mod_eq_of_lt (by omega), Nat.mod_eq_of_lt (by omega), IntKind.wrap_i64]
  omega

/-- The four lowest bytes of a number. -/
def fourB (n : Int) : List Int := [n % 256, n / 256 % 256, n / 65536 % 256, n / 16777216 % 256]
theorem fourB_mod (n : Int) : fourB (n % 4294967296) = fourB n := by
  unfold fourB
  congr 1
  · omega
  congr 1
  · omega
  congr 1
  · omega
  congr 1
  omega
theorem fourB_ok (n : Int) : BytesOk (fourB n) := by
  intro x hx
  simp only [fourB, List.mem_cons, List.not_mem_nil, or_false] at hx
  omega

def FourPost (w : World) (n : Int) (e : Ending) (w' : World) : Prop :=
  e = .returned (.slice (some ⟨w.heap.size, 0, none⟩) 4 4) ∧ BytesAt w' w.heap.size 5 (fourB n) ∧ Turn (fun _ => False) w w'

set_option maxHeartbeats 800000 in
set_option maxRecDepth 100000 in
theorem four_any (n : Int) (w : World) : Calls Tryd.prog 15 #[.int .i64 n] w (FourPost w n) := by
  go_enter Tryd.func15, Tryd.ntmps15
  go_wp2_with fail
  go_ret
  exact ⟨rfl, heap_alloc_new w _, (Turn.refl _ w).alloc _⟩
set_option maxHeartbeats 800000 in
set_option maxRecDepth 100000 in
theorem reffour_any (n : Int) (h0 : 0 ≤ n) (w : World) : Calls Tryd.prog 16 #[.int .u32 n] w (FourPost w n) := by
  have e1 : n.tdiv 256 = n / 256 := Int.tdiv_eq_ediv_of_nonneg h0
  have e2 : n.tdiv 65536 = n / 65536 := Int.tdiv_eq_ediv_of_nonneg h0
  have e3 : n.tdiv 16777216 = n / 16777216 := Int.tdiv_eq_ediv_of_nonneg h0
  go_enter Tryd.func16, Tryd.ntmps16
  go_wp2_with fail
  go_ret
  exact ⟨rfl, heap_alloc_new w _, (Turn.refl _ w).alloc _⟩

/-- The number of the first four bytes. -/
def numK (xs : List Int) : Nat → Nat
  | 0 => 0
  | k + 1 => numK xs k + 256 ^ k * (xs.getD k 0).toNat
theorem numK_lt (xs : List Int) (hx : BytesOk xs) : ∀ k, k ≤ xs.length → numK xs k < 256 ^ k := by
  intro k
  induction k with
  | zero => intro _; simp [numK]
  | succ k ih =>
    intro hk
    have h1 := ih (by omega)
    have hm : xs.getD k 0 ∈ xs := by simp [List.getD, show k < xs.length by omega]
    have hb := hx _ hm
    have h2 : 256 ^ k * (xs.getD k 0).toNat ≤ 256 ^ k * 255 := Nat.mul_le_mul_left _ (by omega)
    rw [numK, Nat.pow_succ]
    omega
theorem or_step (a b k : Nat) (ha : a < 256 ^ k) : a ||| (b * 2 ^ (8 * k)) = a + 256 ^ k * b := by
  have e : (256 : Nat) ^ k = 2 ^ (8 * k) := by rw [show 256 = 2 ^ 8 by rfl, ← Nat.pow_mul]
  rw [e] at ha ⊢
  rw [Nat.or_comm, Nat.mul_comm b, ← Nat.two_pow_add_eq_or_of_lt ha b, Nat.add_comm]

set_option maxHeartbeats 800000 in
set_option maxRecDepth 100000 in
theorem number_any (v : Value) (xs : List Int) (w : World) (hv : Src w v xs) (hx : BytesOk xs) :
    Calls Tryd.prog 17 #[v] w fun e w' => e = .returned (.int .i64 ((numK xs (min xs.length 4) : Nat) : Int)) ∧ w' = w := by
  obtain ⟨a, c, rfl, hc⟩ := src_any hv
  have HC := Lib.hid hc
  have HX := Lib.hid hx
  clear hc hv hx
  obtain ⟨L, hL⟩ : ∃ L, xs.length = L := ⟨_, rfl⟩
  have HL := Lib.hid hL
  simp only [hL]
  clear hL
  have hLc : L ≤ c := by
    by_cases h0 : 0 < L
    · have := (HC.out (by rw [HL.out]; exact h0)).1
      rw [HL.out] at this; exact this
    · omega
  by_cases h4 : L ≤ 4
  · rw [Nat.min_eq_left h4]
    go_enter Tryd.func17, Tryd.ntmps17
    go_wp2_with fail
    go_loop [3, 12] (fun sv iv => ∃ (k : Nat), k ≤ L ∧ iv = .int .i64 (k : Int) ∧ sv = .int .i64 ((numK xs k : Nat) : Int)) (fun _ i => L - (intOf i).toNat)
    case atStart => exact ⟨0, Nat.zero_le _, rfl, rfl⟩
    case round =>
      obtain ⟨k, hk, rfl, rfl⟩ := hrel
      by_cases hlt : k < L
      · obtain ⟨hcap, g, o, rfl, hcell⟩ := HC.out (by rw [HL.out]; omega)
        have hcl := hcell k (by rw [HL.out]; omega)
        have hmm : xs.getD k 0 ∈ xs := by have := HL.out; simp [List.getD, show k < xs.length by omega]
        obtain ⟨b, hb⟩ := Int.eq_ofNat_of_zero_le (HX.out _ hmm).1
        have hb2 := (HX.out _ hmm).2
        have HB := Lib.hid hb
        rw [hb] at hcl hb2
        clear hcell hmm hb
        have hblt : b < 256 := by omega
        have hlk := numK_lt xs HX.out k (by rw [HL.out]; omega)
        have hk3 : k ≤ 3 := by omega
        have hpow : b * 2 ^ (8 * k) < 4294967296 := by
          have h1 : (2 : Nat) ^ (8 * k) ≤ 2 ^ 24 := Nat.pow_le_pow_right (by omega) (by omega)
          have h2 : b * 2 ^ (8 * k) ≤ 255 * 2 ^ 24 := Nat.mul_le_mul (by omega) h1
          omega
        have hacc : numK xs k < 4294967296 := by
          have h1 : (256 : Nat) ^ k ≤ 256 ^ 4 := Nat.pow_le_pow_right (by omega) (by omega)
          omega
        have hor := i64_or_nat (numK xs k) (b * 2 ^ (8 * k)) hacc hpow
        rw [or_step _ _ _ hlk] at hor
        have HO := Lib.hid hor
        clear hor
        have hw : wrap64 ((b : Int) * 2 ^ (8 * k)) = ((b * 2 ^ (8 * k) : Nat) : Int) := by
          rw [show (b : Int) * 2 ^ (8 * k) = ((b * 2 ^ (8 * k) : Nat) : Int) by rw [Int.natCast_mul, Int.natCast_pow]; rfl]
          exact IntWalk.wrap64_in _ ⟨by omega, by omega⟩
        have HW := Lib.hid hw
        clear hw
        go_wp2_with fail
        go_round
        case rel =>
          refine ⟨k + 1, by omega, by go_num, ?_⟩
          show Value.int .i64 (bits .or .i64 ((numK xs k : Nat) : Int) (wrap64 ((b : Int) * 2 ^ (8 * k)))) = _
          rw [HW.out, HO.out, numK, HB.out]; rfl
        case measure => simp [intOf]; omega
      · go_wp2_with fail
        go_ret
        refine ⟨?_, rfl⟩
        obtain rfl : k = L := by omega
        rfl
  · rw [Nat.min_eq_right (by omega)]
    go_enter Tryd.func17, Tryd.ntmps17
    go_wp2_with fail
    go_loop [3, 12] (fun sv iv => ∃ (k : Nat), k ≤ 4 ∧ iv = .int .i64 (k : Int) ∧ sv = .int .i64 ((numK xs k : Nat) : Int)) (fun _ i => 4 - (intOf i).toNat)
    case atStart => exact ⟨0, Nat.zero_le _, rfl, rfl⟩
    case round =>
      obtain ⟨k, hk, rfl, rfl⟩ := hrel
      by_cases hlt : k < 4
      · obtain ⟨hcap, g, o, rfl, hcell⟩ := HC.out (by rw [HL.out]; omega)
        have hcl := hcell k (by rw [HL.out]; omega)
        have hmm : xs.getD k 0 ∈ xs := by have := HL.out; simp [List.getD, show k < xs.length by omega]
        obtain ⟨b, hb⟩ := Int.eq_ofNat_of_zero_le (HX.out _ hmm).1
        have hb2 := (HX.out _ hmm).2
        have HB := Lib.hid hb
        rw [hb] at hcl hb2
        clear hcell hmm hb
        have hblt : b < 256 := by omega
        have hlk := numK_lt xs HX.out k (by rw [HL.out]; omega)
        have hk3 : k ≤ 3 := by omega
        have hpow : b * 2 ^ (8 * k) < 4294967296 := by
          have h1 : (2 : Nat) ^ (8 * k) ≤ 2 ^ 24 := Nat.pow_le_pow_right (by omega) (by omega)
          have h2 : b * 2 ^ (8 * k) ≤ 255 * 2 ^ 24 := Nat.mul_le_mul (by omega) h1
          omega
        have hacc : numK xs k < 4294967296 := by
          have h1 : (256 : Nat) ^ k ≤ 256 ^ 4 := Nat.pow_le_pow_right (by omega) (by omega)
          omega
        have hor := i64_or_nat (numK xs k) (b * 2 ^ (8 * k)) hacc hpow
        rw [or_step _ _ _ hlk] at hor
        have HO := Lib.hid hor
        clear hor
        have hw : wrap64 ((b : Int) * 2 ^ (8 * k)) = ((b * 2 ^ (8 * k) : Nat) : Int) := by
          rw [show (b : Int) * 2 ^ (8 * k) = ((b * 2 ^ (8 * k) : Nat) : Int) by rw [Int.natCast_mul, Int.natCast_pow]; rfl]
          exact IntWalk.wrap64_in _ ⟨by omega, by omega⟩
        have HW := Lib.hid hw
        clear hw
        go_wp2_with fail
        go_round
        case rel =>
          refine ⟨k + 1, by omega, by go_num, ?_⟩
          show Value.int .i64 (bits .or .i64 ((numK xs k : Nat) : Int) (wrap64 ((b : Int) * 2 ^ (8 * k)))) = _
          rw [HW.out, HO.out, numK, HB.out]; rfl
        case measure => simp [intOf]; omega
      · go_wp2_with fail
        go_ret
        refine ⟨?_, rfl⟩
        obtain rfl : k = 4 := by omega
        rfl

/-- The same number, the highest byte first. -/
def tailN (xs : List Int) : Nat → Nat
  | 0 => 0
  | k + 1 => tailN xs k * 256 + (xs.getD (3 - k) 0).toNat
theorem tail_num (xs : List Int) : tailN xs 4 = numK xs 4 := by
  simp only [tailN, numK]; simp; omega
theorem num_min (xs : List Int) : numK xs (min xs.length 4) = numK xs 4 := by
  have hz : ∀ i, xs.length ≤ i → (xs.getD i 0).toNat = 0 := fun i hi => by simp [List.getD, List.getElem?_eq_none hi]
  by_cases h : 4 ≤ xs.length
  · rw [Nat.min_eq_right h]
  · rw [Nat.min_eq_left (by omega)]
    generalize hl : xs.length = l at h hz
    obtain rfl | rfl | rfl | rfl : l = 0 ∨ l = 1 ∨ l = 2 ∨ l = 3 := by omega
    · simp only [numK, hz 0 (by omega), hz 1 (by omega), hz 2 (by omega), hz 3 (by omega)]
    · simp only [numK, hz 1 (by omega), hz 2 (by omega), hz 3 (by omega)]; omega
    · simp only [numK, hz 2 (by omega), hz 3 (by omega)]; omega
    · simp only [numK, hz 3 (by omega)]; omega
theorem num_four (n : Int) : ((numK (fourB n) 4 : Nat) : Int) = n % 4294967296 := by
  simp only [numK, fourB]
  simp only [List.getD_cons_zero, List.getD_cons_succ]
  omega
theorem tail_lt (xs : List Int) (hx : BytesOk xs) : ∀ k, tailN xs k < 256 ^ k := by
  intro k
  induction k with
  | zero => simp [tailN]
  | succ k ih =>
    have hb : (xs.getD (3 - k) 0).toNat < 256 := by
      by_cases h : 3 - k < xs.length
      · have hm : xs.getD (3 - k) 0 ∈ xs := by simp [List.getD, h]
        have := hx _ hm
        omega
      · simp [List.getD, List.getElem?_eq_none (show xs.length ≤ 3 - k by omega)]
    rw [tailN, Nat.pow_succ]
    omega

set_option maxHeartbeats 1600000 in
set_option maxRecDepth 100000 in
theorem numbers_walk (n : Int) (v : Value) (xs : List Int) (w : World) (hn : -9223372036854775808 ≤ n ∧ n < 9223372036854775808) (hv : Src w v xs) (hx : BytesOk xs) (ht : Tab w) (h20 : xs.length ≤ 20) :
    Calls Tryd.prog 6 #[.int .i64 n, v] w (AwakePost w) := by
  have HV := Lib.hid hv
  have HX := Lib.hid hx
  have HT := Lib.hid ht
  obtain ⟨a, c, rfl, q⟩ := src_any hv
  have Q := Lib.hid q
  clear hv hx ht q
  obtain ⟨L, hL⟩ : ∃ L, xs.length = L := ⟨_, rfl⟩
  rw [hL] at h20
  simp only [hL]
  have HL := Lib.hid hL
  clear hL
  have hd : decide ((20 : Int) < (L : Int)) = false := by simp; omega
  go_enter Tryd.func6, Tryd.ntmps6
  go_wp2_with fail
  refine (awake_any w HT.out).mono ?_
  rintro e w1 ⟨rfl, t1⟩
  go_wp2_with fail
  refine (four_any n w1).mono ?_
  rintro e w2 ⟨rfl, b2, t2⟩
  generalize w1.heap.size = B1 at b2 ⊢
  have T2 := t1.trans t2 (fun _ _ => id)
  clear t1 t2 w1
  have hnm : 0 ≤ n % 4294967296 := by omega
  go_wp2_with fail
  refine (reffour_any (n % 4294967296) hnm w2).mono ?_
  rintro e w3 ⟨rfl, b3, t3⟩
  generalize w2.heap.size = B2 at b3 ⊢
  have b4 := b2.turn t3 id
  have T3 := T2.trans t3 (fun _ _ => id)
  rw [fourB_mod] at b3
  clear b2 t3 T2 w2
  go_wp2_with fail
  have HB3 := Lib.hid b3
  have HB4 := Lib.hid b4
  have HT3 := Lib.hid T3
  have RD := Lib.hid (HV.out.turn HT3.out (fun _ _ => id))
  clear b3 b4 T3
  go_loop [7, 8] (fun sv iv => ∃ (k : Nat), k ≤ 4 ∧ iv = .int .i64 (3 - (k : Int)) ∧ sv = .int .i64 ((tailN xs k : Nat) : Int)) (fun _ i => (intOf i + 1).toNat)
  case atStart => exact ⟨0, Nat.zero_le _, rfl, rfl⟩
  case round =>
    obtain ⟨k, hk, rfl, rfl⟩ := hrel
    by_cases hlt : k < 4
    · have h3k : (3 : Int) - (k : Int) = ((3 - k : Nat) : Int) := by omega
      have hdk : decide ((0 : Int) ≤ 3 - (k : Int)) = true := by simp; omega
      have hlt2 := tail_lt xs HX.out k
      have hlt3 : tailN xs k < 16777216 := by
        have h1 : (256 : Nat) ^ k ≤ 256 ^ 3 := Nat.pow_le_pow_right (by omega) (by omega)
        omega
      have hst : tailN xs (k + 1) = tailN xs k * 256 + (xs.getD (3 - k) 0).toNat := rfl
      by_cases hin : 3 - k < L
      · obtain ⟨hcap, g, o, rfl, hcell⟩ := Q.out (by rw [HL.out]; omega)
        have hcl0 := hcell (3 - k) (by rw [HL.out]; omega)
        have hcl := (HT3.out.cell (p := ⟨g, o + (3 - k), none⟩) (World.block_lt_of_cell? w _ hcl0) id).trans hcl0
        have hmm : xs.getD (3 - k) 0 ∈ xs := by have := HL.out; simp [List.getD, show 3 - k < xs.length by omega]
        obtain ⟨b, hb⟩ := Int.eq_ofNat_of_zero_le (HX.out _ hmm).1
        have hb2 := (HX.out _ hmm).2
        rw [hb] at hcl hb2 hst
        rw [HL.out] at hcap
        have HS := Lib.hid hst
        clear hcell hmm hb hcl0 hst
        have hblt : b < 256 := by omega
        have hdl : decide ((3 : Int) - (k : Int) < (L : Int)) = true := by simp; omega
        rw [h3k] at hdk hdl ⊢
        generalize hj : 3 - k = j at *
        go_wp2_with fail
        go_round
        case rel => exact ⟨k + 1, by omega, by congr 1; omega, by rw [HS.out]; congr 1⟩
        case measure => simp [intOf]
      · have hdl : decide ((3 : Int) - (k : Int) < (L : Int)) = false := by simp; omega
        have hz : (xs.getD (3 - k) 0).toNat = 0 := by simp [List.getD, List.getElem?_eq_none (show xs.length ≤ 3 - k by rw [HL.out]; omega)]
        rw [hz] at hst
        have HS := Lib.hid hst
        clear hst hz
        go_wp2_with fail
        go_round
        case rel => exact ⟨k + 1, by omega, by congr 1; omega, by rw [HS.out]; congr 1⟩
        case measure => simp [intOf]; omega
    · obtain rfl : k = 4 := by omega
      have k3 : (convert 22 9 (.slice (some ⟨B1, 0, none⟩) 4 4)).run Tryd.prog w3 = .ok (.string (strOfNums (fourB n))) w3 := (HB4.out.reads 4 4 rfl (by omega)).conv
      have k4 : (convert 22 9 (.slice (some ⟨B2, 0, none⟩) 4 4)).run Tryd.prog w3 = .ok (.string (strOfNums (fourB n))) w3 := (HB3.out.reads 4 4 rfl (by omega)).conv
      generalize strOfNums (fourB n) = st at k3 k4
      go_wp2_with fail
      refine (number_any _ (fourB n) w3 (.inl (HB4.out.reads 4 4 rfl (by omega))) (fourB_ok n)).mono ?_
      rintro e w4 ⟨rfl, rfl⟩
      rw [num_min, num_four]
      go_wp2_with fail
      have RD2 := RD.out
      rw [HL.out] at RD2
      refine (number_any _ xs w4 RD2 HX.out).mono ?_
      rintro e w5 ⟨rfl, rfl⟩
      rw [num_min, ← tail_num]
      go_wp2_with fail
      go_ret
      exact ⟨by simp, HT3.out⟩

set_option maxHeartbeats 1600000 in
set_option maxRecDepth 100000 in
theorem checkNumbers_walk (n : Int) (v : Value) (xs : List Int) (w : World) (hn : -9223372036854775808 ≤ n ∧ n < 9223372036854775808) (hv : Src w v xs) (hx : BytesOk xs) (ht : Tab w) :
    Calls Tryd.prog 6 #[.int .i64 n, v] w (AwakePost w) := by
  by_cases h20 : xs.length ≤ 20
  · exact numbers_walk n v xs w hn hv hx ht h20
  · have HT := Lib.hid ht
    obtain ⟨a, c, rfl, q⟩ := src_any hv
    clear hv hx ht q
    have hd : decide ((20 : Int) < (xs.length : Int)) = true := by simp; omega
    go_enter Tryd.func6, Tryd.ntmps6
    go_wp2_with fail
    refine (awake_any w HT.out).mono ?_
    rintro e w1 ⟨rfl, t1⟩
    go_wp2_with fail
    refine (awake_any w1 (HT.out.turn t1)).mono ?_
    rintro e w2 ⟨rfl, t2⟩
    go_wp2_with fail
    go_ret
    exact ⟨rfl, t1.trans t2 (fun _ _ => id)⟩
end Go.Proofs.YtckeackepolhdaaDoor
