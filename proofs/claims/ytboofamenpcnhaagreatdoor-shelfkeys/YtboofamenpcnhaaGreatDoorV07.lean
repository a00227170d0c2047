/- Own texts, packed: Q17. -/
import Derived.Test.YtboofamenpcnhaaGreatDoorV04
import Derived.Test.YtboofamenpcnhaaGreatDoorV06
import Derived.Lib.SlBytesConst
import Derived.Laws.MakeOwn
namespace Go.Proofs.YtboofamenpcnhaaGreatDoor
set_option maxRecDepth 100000
open Go.RowKit
set_option linter.unusedVariables false
set_option linter.unusedSimpArgs false
/-- The table holds what the text lays. -/
def Tab (w : World) : Prop := 3 < w.heap.size ∧ ∀ i, i < 16 → w.cell? ⟨3, i, none⟩ = some (.int .u32 ((halvesN.getD i 0 : Nat) : Int))
theorem Tab.turn {w w' : World} (h : Tab w) (ht : Turn (fun _ => False) w w') : Tab w' :=
  ⟨Nat.lt_of_lt_of_le h.1 ht.size, fun i hi => (ht.cell (p := ⟨3, i, none⟩) h.1 id).trans (h.2 i hi)⟩
theorem halves_lt (i : Nat) : halvesN.getD i 0 < 4294967296 := by
  by_cases h : i < 16
  · exact (show ∀ t : Fin 16, halvesN.getD t.val 0 < 4294967296 by decide +kernel) ⟨i, h⟩
  · have : halvesN[i]? = none := List.getElem?_eq_none (by show 16 ≤ i; omega)
    simp [List.getD, this]
theorem nib_lt {s : Nat} (h : s < 4294967296) : nib s < 4294967296 := by rw [nib_eq]; exact fN_lt 4 h
theorem comp32 (e : Int) (h0 : 0 ≤ e) (h1 : e < 4294967296) : bits .xor .u32 IntKind.u32.max e = 4294967295 - e := by
  obtain ⟨n, rfl⟩ := Int.eq_ofNat_of_zero_le h0
  show IntKind.u32.wrap ((BitVec.ofInt 32 IntKind.u32.max ^^^ BitVec.ofInt 32 ((n : Nat) : Int)).toNat : Int) = _
  rw [show BitVec.ofInt 32 IntKind.u32.max = BitVec.allOnes 32 by decide, BitVec.allOnes_xor, BitVec.toNat_not, BitVec.ofInt_natCast, BitVec.toNat_ofNat, Nat.mod_eq_of_lt (show n < 2 ^ 32 by omega), IntKind.wrap_u32']
  omega
theorem and15_u32 (s : Nat) (h : s < 4294967296) : bits .and .u32 (s : Int) 15 = ((s % 16 : Nat) : Int) := by
  have := u32_and_nat s 15 h (by omega)
  rw [and15] at this
  exact this
set_option maxHeartbeats 800000 in
set_option maxRecDepth 100000 in
theorem of_any (v : Value) (xs : List Int) (w : World) (hv : Src w v xs) (hx : BytesOk xs) (ht : Tab w) (hl : xs.length ≤ 70000000000000) :
    Calls Tryz.prog 104 #[v] w fun e w' => e = .returned (.int .u32 (sumB xs)) ∧ w' = w := by
  obtain ⟨a, c, rfl, hc⟩ := src_any hv
  have HC := Lib.hid hc
  have HT := Lib.hid ht.2
  have HX := Lib.hid hx
  clear hc ht hv hx
  obtain ⟨L, hL⟩ : ∃ L, xs.length = L := ⟨_, rfl⟩
  have HL := Lib.hid hL
  rw [hL] at hl
  simp only [hL]
  clear hL
  go_enter Tryz.func104, Tryz.ntmps104
  go_wp2_with fail
  go_loop [3, 8] (fun sv iv => ∃ (k s : Nat), k ≤ L ∧ iv = .int .i64 (k : Int) ∧ sv = .int .u32 (s : Int) ∧ s = reg 4294967295 (xs.take k) ∧ s < 4294967296) (fun _ i => L - (intOf i).toNat)
  case atStart => exact ⟨0, 4294967295, Nat.zero_le _, rfl, rfl, by rw [List.take_zero, reg_nil], by omega⟩
  case round =>
    obtain ⟨k, s, hk, rfl, rfl, hs, hslt⟩ := hrel
    have HS := Lib.hid hs
    clear hs
    by_cases hlt : k < L
    · obtain ⟨hcap, g, o, rfl, hcell⟩ := HC.out (by rw [HL.out]; omega)
      have hcl := hcell k (by rw [HL.out]; exact hlt)
      have hm : xs.getD k 0 ∈ xs := by have := HL.out; simp [List.getD, show k < xs.length by omega]
      obtain ⟨b, hb⟩ := Int.eq_ofNat_of_zero_le (HX.out _ hm).1
      have hb2 := (HX.out _ hm).2
      have HB := Lib.hid hb
      rw [hb] at hcl hb2
      clear hcell hm hb
      have hblt : b < 256 := by omega
      rw [HL.out] at hcap
      have x1 : bits .xor .u32 (s : Int) (b : Int) = ((s ^^^ b : Nat) : Int) := u32_xor_nat s b hslt (by omega)
      have hs1 : s ^^^ b < 4294967296 := Nat.xor_lt_two_pow (n := 32) hslt (by omega)
      obtain ⟨s1, hs1e⟩ : ∃ s1, s ^^^ b = s1 := ⟨_, rfl⟩
      rw [hs1e] at x1 hs1
      have HS1 := Lib.hid hs1e
      clear hs1e
      have x2 := and15_u32 s1 hs1
      have x3 := HT.out (s1 % 16) (by omega)
      have x4 : bits .xor .u32 ((s1 : Int) / 16) ((halvesN.getD (s1 % 16) 0 : Nat) : Int) = ((nib s1 : Nat) : Int) := by
        have := u32_xor_nat (s1 / 16) (halvesN.getD (s1 % 16) 0) (by omega) (halves_lt _)
        rw [show ((s1 / 16 : Nat) : Int) = (s1 : Int) / 16 by omega] at this
        exact this
      obtain ⟨h1, hh1⟩ : ∃ h1, halvesN.getD (s1 % 16) 0 = h1 := ⟨_, rfl⟩
      rw [hh1] at x3 x4
      clear hh1
      obtain ⟨s2, hs2e⟩ : ∃ s2, nib s1 = s2 := ⟨_, rfl⟩
      have hs2 : s2 < 4294967296 := by rw [← hs2e]; exact nib_lt hs1
      rw [hs2e] at x4
      have HS2 := Lib.hid hs2e
      clear hs2e
      have y2 := and15_u32 s2 hs2
      have y3 := HT.out (s2 % 16) (by omega)
      have y4 : bits .xor .u32 ((s2 : Int) / 16) ((halvesN.getD (s2 % 16) 0 : Nat) : Int) = ((nib s2 : Nat) : Int) := by
        have := u32_xor_nat (s2 / 16) (halvesN.getD (s2 % 16) 0) (by omega) (halves_lt _)
        rw [show ((s2 / 16 : Nat) : Int) = (s2 : Int) / 16 by omega] at this
        exact this
      obtain ⟨h2, hh2⟩ : ∃ h2, halvesN.getD (s2 % 16) 0 = h2 := ⟨_, rfl⟩
      rw [hh2] at y3 y4
      clear hh2
      go_wp2_with fail
      go_round
      case rel =>
        refine ⟨k + 1, nib s2, by omega, by go_num, ?_, ?_, nib_lt hs2⟩
        · rw [← y4]
        · rw [← HS2.out, nib2_eq, ← HS1.out, HS.out, take_succ_getD xs k (by have := HL.out; omega), reg_app, reg_cons, reg_nil, byteS, HB.out]; rfl
      case measure => simp [intOf]; omega
    · go_wp2_with fail
      go_ret
      refine ⟨?_, rfl⟩
      show Ending.returned (.int .u32 (bits .xor .u32 IntKind.u32.max (s : Int))) = _
      rw [comp32 _ (by omega) (by omega), sumB, HS.out, List.take_of_length_le (by have := HL.out; omega)]
end Go.Proofs.YtboofamenpcnhaaGreatDoor
namespace Go.Proofs.YtboofamenpcnhaaGreatDoor
set_option maxRecDepth 100000
open Go.RowKit
set_option linter.unusedVariables false
/-- A block of memory that holds bytes. -/
def BytesAt (w : World) (B : Nat) (t : TypeId) (ws : List Int) : Prop := w.heap[B]? = some (.cells (ws.map (Value.int .u8)).toArray t (0, 0))
theorem BytesAt.cell {w : World} {B : Nat} {t : TypeId} {ws : List Int} (h : BytesAt w B t ws) (i : Nat) (hi : i < ws.length) : w.cell? ⟨B, i, none⟩ = some (.int .u8 (ws.getD i 0)) := by
  rw [cell_of_row w B i _ t (0, 0) h]
  simp [List.getD, hi]
theorem BytesAt.open_ {w : World} {B : Nat} {t : TypeId} {ws : List Int} (h : BytesAt w B t ws) (i : Nat) : w.frozen? ⟨B, i, none⟩ = false := frozen_of_row w B i _ t h
theorem BytesAt.lt {w : World} {B : Nat} {t : TypeId} {ws : List Int} (h : BytesAt w B t ws) : B < w.heap.size := (Array.getElem?_eq_some_iff.1 h).1
theorem BytesAt.set {w : World} {B : Nat} {t : TypeId} {ws : List Int} (h : BytesAt w B t ws) (i : Nat) (v : Int) : BytesAt (w.setCell ⟨B, i, none⟩ (.int .u8 v)) B t (ws.set i v) := by
  unfold BytesAt
  rw [heap_setCell_same w B i _ t _ h]
  simp
theorem BytesAt.turn {w w' : World} {B : Nat} {t : TypeId} {ws : List Int} {S : Nat → Prop} (h : BytesAt w B t ws) (ht : Turn S w w') (hB : ¬ S B) : BytesAt w' B t ws := (ht.block B h.lt hB).trans h
theorem BytesAt.drew {w : World} {B : Nat} {t : TypeId} {ws : List Int} (h : BytesAt w B t ws) : BytesAt w.drew B t ws := h
theorem BytesAt.reads {w : World} {B : Nat} {ws : List Int} (h : BytesAt w B 5 ws) (c : Nat) (n : Nat) (hn : n = ws.length) (hc : n ≤ c) : Reads w (.slice (some ⟨B, 0, none⟩) n c) ws := by
  subst hn
  exact .inr ⟨B, 0, c, rfl, hc, fun i hi => by rw [Nat.zero_add]; exact h.cell i hi⟩
theorem set_at {α : Type} (xs zs : List α) (z v : α) (n : Nat) (h : xs.length = n) : (xs ++ z :: zs).set n v = xs ++ v :: zs := by subst h; simp
theorem made_bytes (n : Nat) : madeCells (Value.int .u8 0).cells n = Array.replicate n (.int .u8 0) := by
  apply Array.ext
  · simp [madeCells]
  · intro i h1 h2
    simp [madeCells, Value.cells, Nat.mod_one]
theorem run_make_bytes (l c : Nat) (hlc : l ≤ c) (hc : c ≤ 100000000000000) (w : World) :
    (Instr.makeSlice 29 (.int .i64 (l : Int)) (.int .i64 (c : Int))).run Tryz.prog w = .ok (.slice (some ⟨w.heap.size, 0, none⟩) l c) (w.alloc (.cells (Array.replicate c (.int .u8 0)) 5)) := by
  obtain ⟨i0, hi, hz0, hz1, hz2⟩ := info_parts Tryz.info5
  have h := run_make (P := Tryz.prog) w 29 5 i0 _ Tryz.underlying29 hi hz0 .i64 .i64 (l : Int) (c : Int) (by omega) (by omega) (by rw [hz2]; omega) (by omega)
  rw [h, hz1, Nat.mul_one, Int.toNat_natCast, Int.toNat_natCast, made_bytes]
theorem made_at (w : World) (n : Nat) : BytesAt (w.alloc (.cells (Array.replicate n (.int .u8 0)) 5)) w.heap.size 5 (List.replicate n 0) := by
  unfold BytesAt
  rw [heap_alloc_new]
  simp
end Go.Proofs.YtboofamenpcnhaaGreatDoor
