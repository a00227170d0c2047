/- Own texts, packed: COf, CCells. -/
import Derived.Test.YtnenkclihgeacaaDoorP01
import Derived.Test.YtnenkclihgeacaaDoorP11
import Derived.Lib.SlBytesConst
import Derived.Laws.MakeOwn
/- Own contracts: the sum by the table, and by definition. No statement is proved here. -/
namespace Go.Proofs.YtnenkclihgeacaaDoor
set_option maxRecDepth 100000
open Go.RowKit
set_option linter.unusedVariables false
set_option linter.unusedSimpArgs false

/-- The table holds what the text lays. -/
def Tab (w : World) : Prop := 1 < w.heap.size ∧ ∀ i, i < 16 → w.cell? ⟨1, i, none⟩ = some (.int .u32 ((halvesN.getD i 0 : Nat) : Int))
theorem Tab.turn {w w' : World} (h : Tab w) (ht : Turn (fun _ => False) w w') : Tab w' :=
  ⟨Nat.lt_of_lt_of_le h.1 ht.size, fun i hi => (ht.cell (p := ⟨1, i, none⟩) h.1 id).trans (h.2 i hi)⟩

theorem halves_lt (i : Nat) : halvesN.getD i 0 < 4294967296 := by
  by_cases h : i < 16
  · exact (show ∀ t : Fin 16, halvesN.getD t.val 0 < 4294967296 by decide +kernel) ⟨i, h⟩
  · have : halvesN[i]? = none := List.getElem?_eq_none (by show 16 ≤ i; omega)
    simp [List.getD, this]
theorem nib_lt {s : Nat} (h : s < 4294967296) : nib s < 4294967296 := by rw [nib_eq]; exact fN_lt 4 h

theorem comp32 (e : Int) (h0 : 0 ≤ e) (h1 : e < 4294967296) : bits .xor .u32 IntKind.u32.max e = 4294967295 - e := by
  obtain ⟨n, rfl⟩ := Int.eq_ofNat_of_zero_le h0
  show IntKind.u32.wrap ((BitVec.ofInt 32 IntKind.u32.max ^^^ BitVec.ofInt 32 ((n : Nat) : Int)).toNat : Int) = _
  rw [show BitVec.ofInt 32 IntKind.u32.max = BitVec.allOnes 32 by decide, BitVec.allOnes_xor, BitVec.toNat_not, BitVec.ofInt_natCast, BitVec.toNat_ofNat, Nat.mod_eq_of_lt (show n < 2 ^ 32 by omega), IntKind.wrap_u32']
  omega
theorem and15_u32 (s : Nat) (h : s < 4294967296) : bits .and .u32 (s : Int) 15 = ((s % 16 : Nat) : Int) := by
  have := u32_and_nat s 15 h (by omega)
  rw [and15] at this
  exact this

set_option maxHeartbeats 800000 in
set_option maxRecDepth 100000 in
theorem of_any (v : Value) (xs : List Int) (w : World) (hv : Src w v xs) (hx : BytesOk xs) (ht : Tab w) (hl : xs.length ≤ 70000000000000) :
    Calls Tryd.prog 73 #[v] w fun e w' => e = .returned (.int .u32 (sumB xs)) ∧ w' = w := by
  obtain ⟨a, c, rfl, hc⟩ := src_any hv
  have HC := Lib.hid hc
  have HT := Lib.hid ht.2
  have HX := Lib.hid hx
  clear hc ht hv hx
  obtain ⟨L, hL⟩ : ∃ L, xs.length = L := ⟨_, rfl⟩
  have HL := Lib.hid hL
  rw [hL] at hl
  simp only [hL]
  clear hL
  go_enter Tryd.func73, Tryd.ntmps73
  go_wp2_with fail
  go_loop [3, 8] (fun sv iv => ∃ (k s : Nat), k ≤ L ∧ iv = .int .i64 (k : Int) ∧ sv = .int .u32 (s : Int) ∧ s = reg 4294967295 (xs.take k) ∧ s < 4294967296) (fun _ i => L - (intOf i).toNat)
  case atStart => exact ⟨0, 4294967295, Nat.zero_le _, rfl, rfl, by rw [List.take_zero, reg_nil], by omega⟩
  case round =>
    obtain ⟨k, s, hk, rfl, rfl, hs, hslt⟩ := hrel
    have HS := Lib.hid hs
    clear hs
    by_cases hlt : k < L
    · obtain ⟨hcap, g, o, rfl, hcell⟩ := HC.out (by rw [HL.out]; omega)
      have hcl := hcell k (by rw [HL.out]; exact hlt)
      have hm : xs.getD k 0 ∈ xs := by have := HL.out; simp [List.getD, show k < xs.length by omega]
      obtain ⟨b, hb⟩ := Int.eq_ofNat_of_zero_le (HX.out _ hm).1
      have hb2 := (HX.out _ hm).2
      have HB := Lib.hid hb
      rw [hb] at hcl hb2
      clear hcell hm hb
      have hblt : b < 256 := by omega
      rw [HL.out] at hcap
      have x1 : bits .xor .u32 (s : Int) (b : Int) = ((s ^^^ b : Nat) : Int) := u32_xor_nat s b hslt (by omega)
      have hs1 : s ^^^ b < 4294967296 := Nat.xor_lt_two_pow (n := 32) hslt (by omega)
      obtain ⟨s1, hs1e⟩ : ∃ s1, s ^^^ b = s1 := ⟨_, rfl⟩
      rw [hs1e] at x1 hs1
      have HS1 := Lib.hid hs1e
      clear hs1e
      have x2 := and15_u32 s1 hs1
      have x3 := HT.out (s1 % 16) (by omega)
      have x4 : bits .xor .u32 ((s1 : Int) / 16) ((halvesN.getD (s1 % 16) 0 : Nat) : Int) = ((nib s1 : Nat) : Int) := by
        have := u32_xor_nat (s1 / 16) (halvesN.getD (s1 % 16) 0) (by omega) (halves_lt _)
        rw [show ((s1 / 16 : Nat) : Int) = (s1 : Int) / 16 by omega] at this
        exact this
      obtain ⟨h1, hh1⟩ : ∃ h1, halvesN.getD (s1 % 16) 0 = h1 := ⟨_, rfl⟩
      rw [hh1] at x3 x4
      clear hh1
      obtain ⟨s2, hs2e⟩ : ∃ s2, nib s1 = s2 := ⟨_, rfl⟩
      have hs2 : s2 < 4294967296 := by rw [← hs2e]; exact nib_lt hs1
      rw [hs2e] at x4
      have HS2 := Lib.hid hs2e
      clear hs2e
      have y2 := and15_u32 s2 hs2
      have y3 := HT.out (s2 % 16) (by omega)
      have y4 : bits .xor .u32 ((s2 : Int) / 16) ((halvesN.getD (s2 % 16) 0 : Nat) : Int) = ((nib s2 : Nat) : Int) := by
        have := u32_xor_nat (s2 / 16) (halvesN.getD (s2 % 16) 0) (by omega) (halves_lt _)
        rw [show ((s2 / 16 : Nat) : Int) = (s2 : Int) / 16 by omega] at this
        exact this
      obtain ⟨h2, hh2⟩ : ∃ h2, halvesN.getD (s2 % 16) 0 = h2 := ⟨_, rfl⟩
      rw [hh2] at y3 y4
      clear hh2
      go_wp2_with fail
      go_round
      case rel =>
        refine ⟨k + 1, nib s2, by omega, by go_num, ?_, ?_, nib_lt hs2⟩
        · rw [← y4]
        · rw [← HS2.out, nib2_eq, ← HS1.out, HS.out, take_succ_getD xs k (by have := HL.out; omega), reg_app, reg_cons, reg_nil, byteS, HB.out]; rfl
      case measure => simp [intOf]; omega
    · go_wp2_with fail
      go_ret
      refine ⟨?_, rfl⟩
      show Ending.returned (.int .u32 (bits .xor .u32 IntKind.u32.max (s : Int))) = _
      rw [comp32 _ (by omega) (by omega), sumB, HS.out, List.take_of_length_le (by have := HL.out; omega)]

set_option maxHeartbeats 800000 in
set_option maxRecDepth 100000 in
theorem sum_any (v : Value) (xs : List Int) (w : World) (hv : Src w v xs) (hx : BytesOk xs) (hl : xs.length ≤ 70000000000000) :
    Calls Tryd.prog 52 #[v] w fun e w' => e = .returned (.int .u32 (sumB xs)) ∧ w' = w := by
  obtain ⟨a, c, rfl, hc⟩ := src_any hv
  have HC := Lib.hid hc
  have HX := Lib.hid hx
  clear hc hv hx
  obtain ⟨L, hL⟩ : ∃ L, xs.length = L := ⟨_, rfl⟩
  have HL := Lib.hid hL
  rw [hL] at hl
  simp only [hL]
  clear hL
  go_enter Tryd.func52, Tryd.ntmps52
  go_wp2_with fail
  go_loop [3, 4] (fun sv iv => ∃ (k s : Nat), k ≤ 8 * L ∧ iv = .int .i64 (k : Int) ∧ sv = .int .u32 (s : Int) ∧ s = regBits 4294967295 xs k ∧ s < 4294967296) (fun _ i => 8 * L - (intOf i).toNat)
  case atStart => exact ⟨0, 4294967295, Nat.zero_le _, rfl, rfl, by rw [regBits_zero], by omega⟩
  case round =>
    obtain ⟨k, s, hk, rfl, rfl, hs, hslt⟩ := hrel
    have HS := Lib.hid hs
    clear hs
    by_cases hlt : k < 8 * L
    · obtain ⟨hcap, g, o, rfl, hcell⟩ := HC.out (by rw [HL.out]; omega)
      have hcl := hcell (k / 8) (by rw [HL.out]; omega)
      have hm : xs.getD (k / 8) 0 ∈ xs := by have := HL.out; simp [List.getD, show k / 8 < xs.length by omega]
      obtain ⟨b, hb⟩ := Int.eq_ofNat_of_zero_le (HX.out _ hm).1
      have hb2 := (HX.out _ hm).2
      have HB := Lib.hid hb
      rw [hb] at hcl hb2
      clear hcell hm hb
      have hblt : b < 256 := by omega
      rw [HL.out] at hcap
      have HR := Lib.hid (regBits_succ 4294967295 xs k HX.out (by have := HL.out; omega))
      have hone : (b : Int) / 2 ^ (k % 8) % 2 = ((b / 2 ^ (k % 8) % 2 : Nat) : Int) := by
        rw [Int.natCast_emod, Int.natCast_ediv, Int.natCast_pow]; rfl
      have HN0 : regBits 4294967295 xs (k + 1) = bitS s (b / 2 ^ (k % 8) % 2) := by rw [HR.out, HB.out, HS.out]; rfl
      have HN := Lib.hid HN0
      clear HN0
      clear HR
      by_cases hsb : s % 2 = b / 2 ^ (k % 8) % 2
      · have hne : ((s : Int) % 2 != (b : Int) / 2 ^ (k % 8) % 2) = false := by rw [hone, ← hsb]; simp
        have e1 : bitS s (b / 2 ^ (k % 8) % 2) = s / 2 := by unfold bitS; rw [if_neg (by omega)]
        rw [e1] at HN
        clear hone hsb e1
        go_wp2_with fail
        go_round
        case rel => exact ⟨k + 1, s / 2, by omega, by go_num, by simp, HN.out.symm, by omega⟩
        case measure => simp [intOf]; omega
      · have hne : ((s : Int) % 2 != (b : Int) / 2 ^ (k % 8) % 2) = true := by rw [hone]; simp; omega
        have e1 : bitS s (b / 2 ^ (k % 8) % 2) = (s / 2) ^^^ 2197175160 := by unfold bitS; rw [if_pos hsb]
        rw [e1] at HN
        have e2 : bits .xor .u32 ((s : Int) / 2) 2197175160 = (((s / 2) ^^^ 2197175160 : Nat) : Int) := by
          have := u32_xor_nat (s / 2) 2197175160 (by omega) (by omega)
          rw [show ((s / 2 : Nat) : Int) = (s : Int) / 2 by omega] at this
          exact this
        have e3 : (s / 2) ^^^ 2197175160 < 4294967296 := Nat.xor_lt_two_pow (n := 32) (by omega) (by omega)
        clear hone hsb e1
        go_wp2_with fail
        go_round
        case rel => exact ⟨k + 1, (s / 2) ^^^ 2197175160, by omega, by go_num, rfl, HN.out.symm, e3⟩
        case measure => simp [intOf]; omega
    · go_wp2_with fail
      go_ret
      refine ⟨?_, rfl⟩
      show Ending.returned (.int .u32 (4294967295 - (s : Int))) = _
      rw [sumB, HS.out, show k = 8 * xs.length by have := HL.out; omega, regBits_all]

theorem nine_reads (w : World) : Reads (w.alloc (.cells #[.int .u8 49, .int .u8 50, .int .u8 51, .int .u8 52, .int .u8 53, .int .u8 54, .int .u8 55, .int .u8 56, .int .u8 57] 5 (9, 10))) (.slice (some ⟨w.heap.size, 0, none⟩) 9 9) [49, 50, 51, 52, 53, 54, 55, 56, 57] := by
  refine .inr ⟨w.heap.size, 0, 9, rfl, by decide, fun i hi => ?_⟩
  have h2 := heap_alloc_new w (.cells #[.int .u8 49, .int .u8 50, .int .u8 51, .int .u8 52, .int .u8 53, .int .u8 54, .int .u8 55, .int .u8 56, .int .u8 57] 5 (9, 10))
  rw [Nat.zero_add, cell_of_row _ _ _ _ 5 (9, 10) h2]
  match i, hi with
  | 0, _ => rfl
  | 1, _ => rfl
  | 2, _ => rfl
  | 3, _ => rfl
  | 4, _ => rfl
  | 5, _ => rfl
  | 6, _ => rfl
  | 7, _ => rfl
  | 8, _ => rfl
theorem conv_nine (w : World) : (convert 31 31 (.slice (some ⟨w.heap.size, 0, none⟩) 9 9)).run Tryd.prog (w.alloc (.cells #[.int .u8 49, .int .u8 50, .int .u8 51, .int .u8 52, .int .u8 53, .int .u8 54, .int .u8 55, .int .u8 56, .int .u8 57] 5)) = .ok (.slice (some ⟨w.heap.size, 0, none⟩) 9 9) (w.alloc (.cells #[.int .u8 49, .int .u8 50, .int .u8 51, .int .u8 52, .int .u8 53, .int .u8 54, .int .u8 55, .int .u8 56, .int .u8 57] 5 (9, 10))) :=
  Lib.run_convert_bytes_const w 31 5 _ 9 9 Tryd.underlying31 Tryd.underlying5

def AwakePost (w : World) (e : Ending) (w' : World) : Prop := e = .returned (.bool true) ∧ Turn (fun _ => False) w w'
end Go.Proofs.YtnenkclihgeacaaDoor
/- Own: blocks that hold just these bytes; a slice that is made. No statement is proved here. -/
namespace Go.Proofs.YtnenkclihgeacaaDoor
set_option maxRecDepth 100000
open Go.RowKit
set_option linter.unusedVariables false

/-- A block of memory that holds bytes. -/
def BytesAt (w : World) (B : Nat) (t : TypeId) (ws : List Int) : Prop := w.heap[B]? = some (.cells (ws.map (Value.int .u8)).toArray t (0, 0))
theorem BytesAt.cell {w : World} {B : Nat} {t : TypeId} {ws : List Int} (h : BytesAt w B t ws) (i : Nat) (hi : i < ws.length) : w.cell? ⟨B, i, none⟩ = some (.int .u8 (ws.getD i 0)) := by
  rw [cell_of_row w B i _ t (0, 0) h]
  simp [List.getD, hi]
theorem BytesAt.open_ {w : World} {B : Nat} {t : TypeId} {ws : List Int} (h : BytesAt w B t ws) (i : Nat) : w.frozen? ⟨B, i, none⟩ = false := frozen_of_row w B i _ t h
theorem BytesAt.lt {w : World} {B : Nat} {t : TypeId} {ws : List Int} (h : BytesAt w B t ws) : B < w.heap.size := (Array.getElem?_eq_some_iff.1 h).1
theorem BytesAt.set {w : World} {B : Nat} {t : TypeId} {ws : List Int} (h : BytesAt w B t ws) (i : Nat) (v : Int) : BytesAt (w.setCell ⟨B, i, none⟩ (.int .u8 v)) B t (ws.set i v) := by
  unfold BytesAt
  rw [heap_setCell_same w B i _ t _ h]
  simp
theorem BytesAt.turn {w w' : World} {B : Nat} {t : TypeId} {ws : List Int} {S : Nat → Prop} (h : BytesAt w B t ws) (ht : Turn S w w') (hB : ¬ S B) : BytesAt w' B t ws := (ht.block B h.lt hB).trans h
theorem BytesAt.drew {w : World} {B : Nat} {t : TypeId} {ws : List Int} (h : BytesAt w B t ws) : BytesAt w.drew B t ws := h
theorem BytesAt.reads {w : World} {B : Nat} {ws : List Int} (h : BytesAt w B 5 ws) (c : Nat) (n : Nat) (hn : n = ws.length) (hc : n ≤ c) : Reads w (.slice (some ⟨B, 0, none⟩) n c) ws := by
  subst hn
  exact .inr ⟨B, 0, c, rfl, hc, fun i hi => by rw [Nat.zero_add]; exact h.cell i hi⟩
theorem set_at {α : Type} (xs zs : List α) (z v : α) (n : Nat) (h : xs.length = n) : (xs ++ z :: zs).set n v = xs ++ v :: zs := by subst h; simp

theorem made_bytes (n : Nat) : madeCells (Value.int .u8 0).cells n = Array.replicate n (.int .u8 0) := by
  apply Array.ext
  · simp [madeCells]
  · intro i h1 h2
    simp [madeCells, Value.cells, Nat.mod_one]
theorem run_make_bytes (l c : Nat) (hlc : l ≤ c) (hc : c ≤ 100000000000000) (w : World) :
    (Instr.makeSlice 31 (.int .i64 (l : Int)) (.int .i64 (c : Int))).run Tryd.prog w = .ok (.slice (some ⟨w.heap.size, 0, none⟩) l c) (w.alloc (.cells (Array.replicate c (.int .u8 0)) 5)) := by
  obtain ⟨i0, hi, hz0, hz1, hz2⟩ := info_parts Tryd.info5
  have h := run_make (P := Tryd.prog) w 31 5 i0 _ Tryd.underlying31 hi hz0 .i64 .i64 (l : Int) (c : Int) (by omega) (by omega) (by rw [hz2]; omega) (by omega)
  rw [h, hz1, Nat.mul_one, Int.toNat_natCast, Int.toNat_natCast, made_bytes]
theorem made_at (w : World) (n : Nat) : BytesAt (w.alloc (.cells (Array.replicate n (.int .u8 0)) 5)) w.heap.size 5 (List.replicate n 0) := by
  unfold BytesAt
  rw [heap_alloc_new]
  simp
end Go.Proofs.YtnenkclihgeacaaDoor
