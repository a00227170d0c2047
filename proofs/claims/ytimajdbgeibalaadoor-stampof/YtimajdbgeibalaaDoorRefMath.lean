/- Own lemmas: the sum over all bytes at once, as the reference makes it. No statement is proved here. -/
import Derived.Test.YtimajdbgeibalaaDoorOf
namespace Go.Proofs.YtimajdbgeibalaaDoor
open Go.RowKit
set_option linter.unusedVariables false

theorem stirN_left (ks : List Int) (s : Eight) (a b : List Int) : ∀ (j : Nat), 64 * j ≤ a.length → stirN ks s (a ++ b) j = stirN ks s a j
  | 0, _ => rfl
  | j + 1, h => by
    rw [stirN, stirN, stirN_left ks s a b j (by omega), List.drop_append_of_le_length (by omega), List.take_append_of_le_length (by rw [List.length_drop]; omega)]
theorem stirN_app (ks : List Int) (s : Eight) (a b : List Int) (n : Nat) (ha : a.length = 64 * n) : ∀ (m : Nat), stirN ks s (a ++ b) (n + m) = stirN ks (stirN ks s a n) b m
  | 0 => stirN_left ks s a b n (by omega)
  | m + 1 => by
    rw [← Nat.add_assoc, stirN, stirN, stirN_app ks s a b n ha m]
    have e : (a ++ b).drop (64 * (n + m)) = b.drop (64 * m) := by
      rw [Nat.mul_add, ← ha, List.drop_append]
      simp
    rw [e]

/-- All bytes, a bit, noughts, and how many bits there were. -/
def padAll (ps : List Int) : List Int := ps ++ [128] ++ List.replicate (pads ps.length) 0 ++ lenB ps.length 8
theorem padAll_split (ps : List Int) : padAll ps = ps.take (whole ps.length) ++ lastB ps := by
  have e : pads (ps.drop (whole ps.length)).length = pads ps.length := by
    rw [List.length_drop]; unfold pads whole
    have : (ps.length - (ps.length - ps.length % 64)) % 64 = ps.length % 64 := by omega
    rw [this]
  unfold padAll lastB
  rw [e]
  simp only [List.append_assoc]
  rw [← List.append_assoc (ps.take (whole ps.length)), List.take_append_drop]
theorem padAll_len (ps : List Int) : (padAll ps).length = ps.length + 9 + pads ps.length := by
  simp [padAll, lenB]; omega
/-- The program's two steps are the reference's one. -/
theorem sha_pad (f : Eight) (ks ps : List Int) : stirN ks f (padAll ps) ((padAll ps).length / 64) = shaE f ks ps := by
  have hw : (ps.take (whole ps.length)).length = 64 * ((ps.take (whole ps.length)).length / 64) := by
    rw [List.length_take]; unfold whole; omega
  have hl : (padAll ps).length / 64 = (ps.take (whole ps.length)).length / 64 + (lastB ps).length / 64 := by
    rw [padAll_split, List.length_append]; omega
  rw [hl, padAll_split, stirN_app ks f _ _ _ hw]
  rfl

theorem wrap32 (n : Nat) (h : n < 4294967296) : IntKind.u32.wrap (n : Int) = (n : Int) := IntWalk.u32_in _ (by omega)
theorem or32 (a b k : Nat) (ha : a * 2 ^ k < 4294967296) (hb : b < 2 ^ k) (hs : a * 2 ^ k + b < 4294967296) : bits .or .u32 ((a * 2 ^ k : Nat) : Int) ((b : Nat) : Int) = ((a * 2 ^ k + b : Nat) : Int) := by
  show IntKind.u32.wrap ((BitVec.ofInt 32 ((a * 2 ^ k : Nat) : Int) ||| BitVec.ofInt 32 ((b : Nat) : Int)).toNat : Int) = _
  rw [BitVec.ofInt_natCast, BitVec.ofInt_natCast, BitVec.toNat_or, BitVec.toNat_ofNat, BitVec.toNat_ofNat, Nat.mod_eq_of_lt (by simpa using ha), Nat.mod_eq_of_lt (show b < 2 ^ 32 by omega)]
  have h := Nat.shiftLeft_add_eq_or_of_lt hb a
  rw [Nat.shiftLeft_eq] at h
  rw [← h, wrap32 _ hs]
theorem comp32 (e : Int) (h0 : 0 ≤ e) (h1 : e < 4294967296) : bits .xor .u32 IntKind.u32.max e = 4294967295 - e := by
  obtain ⟨n, rfl⟩ := Int.eq_ofNat_of_zero_le h0
  show IntKind.u32.wrap ((BitVec.ofInt 32 IntKind.u32.max ^^^ BitVec.ofInt 32 ((n : Nat) : Int)).toNat : Int) = _
  rw [show BitVec.ofInt 32 IntKind.u32.max = BitVec.allOnes 32 by decide, BitVec.allOnes_xor, BitVec.toNat_not, BitVec.ofInt_natCast, BitVec.toNat_ofNat, Nat.mod_eq_of_lt (show n < 2 ^ 32 by omega), wrap32 _ (by omega)]
  omega
theorem word4_bytes (b0 b1 b2 b3 : Int) (h0 : 0 ≤ b0 ∧ b0 < 256) (h1 : 0 ≤ b1 ∧ b1 < 256) (h2 : 0 ≤ b2 ∧ b2 < 256) (h3 : 0 ≤ b3 ∧ b3 < 256) :
    word4 b0 b1 b2 b3 = ((b0 * 256 + b1) * 256 + b2) * 256 + b3 := by
  obtain ⟨n0, rfl⟩ := Int.eq_ofNat_of_zero_le h0.1
  obtain ⟨n1, rfl⟩ := Int.eq_ofNat_of_zero_le h1.1
  obtain ⟨n2, rfl⟩ := Int.eq_ofNat_of_zero_le h2.1
  obtain ⟨n3, rfl⟩ := Int.eq_ofNat_of_zero_le h3.1
  have w0 := wrap32 n0 (by omega)
  have w1 := wrap32 n1 (by omega)
  have w2 := wrap32 n2 (by omega)
  have w3 := wrap32 n3 (by omega)
  have e0 : IntKind.u32.wrap ((n0 : Int) * 16777216) = ((n0 * 2 ^ 24 : Nat) : Int) := by rw [show (n0 : Int) * 16777216 = ((n0 * 2 ^ 24 : Nat) : Int) by omega]; exact wrap32 _ (by omega)
  have e1 : IntKind.u32.wrap ((n1 : Int) * 65536) = ((n1 * 2 ^ 16 : Nat) : Int) := by rw [show (n1 : Int) * 65536 = ((n1 * 2 ^ 16 : Nat) : Int) by omega]; exact wrap32 _ (by omega)
  have e2 : IntKind.u32.wrap ((n2 : Int) * 256) = ((n2 * 2 ^ 8 : Nat) : Int) := by rw [show (n2 : Int) * 256 = ((n2 * 2 ^ 8 : Nat) : Int) by omega]; exact wrap32 _ (by omega)
  unfold word4
  rw [w0, w1, w2, w3, e0, e1, e2, or32 n0 (n1 * 2 ^ 16) 24 (by omega) (by omega) (by omega)]
  rw [show n0 * 2 ^ 24 + n1 * 2 ^ 16 = (n0 * 256 + n1) * 2 ^ 16 by omega, or32 (n0 * 256 + n1) (n2 * 2 ^ 8) 16 (by omega) (by omega) (by omega)]
  rw [show (n0 * 256 + n1) * 2 ^ 16 + n2 * 2 ^ 8 = ((n0 * 256 + n1) * 256 + n2) * 2 ^ 8 by omega, or32 ((n0 * 256 + n1) * 256 + n2) n3 8 (by omega) (by omega) (by omega)]
  omega
end Go.Proofs.YtimajdbgeibalaaDoor
