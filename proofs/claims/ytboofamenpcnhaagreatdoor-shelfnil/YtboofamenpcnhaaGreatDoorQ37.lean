/- Own texts, packed: Cat. -/
import Derived.Test.YtboofamenpcnhaaGreatDoorQ29
/- Own contracts: rows of bytes put together. No statement is proved here. -/
namespace Go.Proofs.YtboofamenpcnhaaGreatDoor
set_option maxRecDepth 100000
open Go.RowKit
set_option linter.unusedVariables false
set_option linter.unusedSimpArgs false

def catN (xs : Nat → List Int) (n : Nat) : List Int := (List.range n).flatMap xs
theorem catN_next (xs : Nat → List Int) (n : Nat) : catN xs (n + 1) = catN xs n ++ xs n := by simp [catN, List.range_succ]
theorem catN_mono (xs : Nat → List Int) {k n : Nat} (h : k ≤ n) : (catN xs k).length ≤ (catN xs n).length := by
  induction n with
  | zero => obtain rfl : k = 0 := by omega
            exact Nat.le_refl _
  | succ n ih =>
    rcases Nat.lt_or_ge n k with h1 | h1
    · obtain rfl : k = n + 1 := by omega
      exact Nat.le_refl _
    · rw [catN_next, List.length_append]; have := ih h1; omega
set_option maxHeartbeats 1600000 in
theorem concat_all (w : World) (G c0 n : Nat) (hc0 : n ≤ c0) (hn : n ≤ 100) (g o c : Nat → Nat) (xs : Nat → List Int)
    (hG : ∀ k, k < n → w.cell? ⟨G, k, none⟩ = some (.slice (some ⟨g k, o k, none⟩) (xs k).length (c k))) (h : ∀ k, k < n → ∀ i, i < (xs k).length → w.cell? ⟨g k, o k + i, none⟩ = some (.int .u8 ((xs k).getD i 0)))
    (hpos : 0 < (catN xs n).length) (hle : (catN xs n).length ≤ 1000) :
    Calls Tryz.prog 76 #[.slice (some ⟨G, 0, none⟩) n c0] w (Made w (catN xs n)) := by
  obtain ⟨i0, hi, hz0, hz1, hz2⟩ := info_parts Tryz.info5
  have HH := Lib.hid h
  have HG := Lib.hid hG
  clear h hG
  obtain ⟨T, hT⟩ : ∃ T, (catN xs n).length = T := ⟨_, rfl⟩
  rw [hT] at hpos hle
  have HT := Lib.hid hT
  clear hT
  go_enter Tryz.func76, Tryz.ntmps76
  go_wp2_with fail
  go_loop [3, 11] (fun sv iv => ∃ (k : Nat), k ≤ n ∧ iv = .int .i64 (k : Int) ∧ sv = .int .i64 ((catN xs k).length : Int)) (fun _ i => n - (intOf i).toNat)
  case atStart => exact ⟨0, Nat.zero_le _, rfl, rfl⟩
  case round =>
    obtain ⟨k, hk, rfl, rfl⟩ := hrel
    by_cases hlt : k < n
    · have c1 := HG.out k hlt
      have hm := catN_mono xs (show k + 1 ≤ n by omega)
      have hm2 := catN_next xs k
      have hlen : (catN xs (k + 1)).length = (catN xs k).length + (xs k).length := by rw [hm2, List.length_append]
      have hT2 := HT.out
      rw [hT2] at hm
      have HLEN := Lib.hid hlen
      obtain ⟨L, hL⟩ : ∃ L, (xs k).length = L := ⟨_, rfl⟩
      obtain ⟨A, hA⟩ : ∃ A, (catN xs k).length = A := ⟨_, rfl⟩
      rw [hL] at c1
      rw [hL, hA] at hlen
      have HL := Lib.hid hL
      have HA := Lib.hid hA
      have hb : A + L ≤ 1000 := by omega
      rw [hA]
      have hd : decide ((A : Int) + (L : Int) < 0) = false := by simp; omega
      have gi : (0 : Int) ≤ (k : Int) ∧ (k : Int) < (n : Int) := by omega
      clear hlen hm hm2 hT2 hL hA
      go_wp2_with fail
      go_round
      case rel => exact ⟨k + 1, by omega, by go_num, by rw [HLEN.out, HL.out, HA.out]; go_num⟩
      case measure => simp [intOf]; omega
    · obtain rfl : k = n := by omega
      rw [HT.out]
      go_wp2_with fail
      refine (grow_any T hpos hle w).mono ?_
      rintro e w1 ⟨v1, rfl, ho1, t1⟩
      have HO1 := Lib.hid ho1
      clear ho1
      go_wp2_with fail
      go_loopw [6, 27] (fun sv iv wr => ∃ (j : Nat), j ≤ k ∧ iv = .int .i64 (j : Int) ∧ wr.ownsRow w.heap.size 5 1 sv (catN xs j).length ((catN xs j).map (Value.int .u8)) ∧ Turn (fun _ => False) w wr) (fun _ i _ => k - (intOf i).toNat)
      case atStart => exact ⟨0, Nat.zero_le _, rfl, HO1.out, t1⟩
      case round =>
        obtain ⟨j, hj, rfl, ho, tr⟩ := hrel
        have HO := Lib.hid ho
        clear ho
        by_cases hjk : j < k
        · have c0 := HG.out j hjk
          have c1 := (tr.cell (p := ⟨G, j, none⟩) (World.block_lt_of_cell? w _ c0) id).trans c0
          have hnews := news_of trivial (fun i hi => (tr.cell (p := ⟨g j, o j + i, none⟩) (World.block_lt_of_cell? w _ (HH.out j hjk i hi)) id).trans (HH.out j hjk i hi))
          have HN := Lib.hid hnews
          obtain ⟨L, hL⟩ : ∃ L, (xs j).length = L := ⟨_, rfl⟩
          rw [hL] at c1
          have HL := Lib.hid hL
          have HB := Lib.hid (show (catN xs j).length + L ≤ 1000 by have := catN_mono xs (show j + 1 ≤ k by omega); rw [catN_next, List.length_append] at this; have := HT.out; omega)
          have gi : (0 : Int) ≤ (j : Int) ∧ (j : Int) < (k : Int) := by omega
          clear hnews hL c0
          go_wp2_with (at_builtin; refine wpList_append_where _ rfl (.tmp 31) (.tmp 32) 29 rfl w.heap.size 5 i0 (.int .u8 0) 1 1 Tryz.underlying29 hi hz0 hz1 hz2 rfl (by decide) _ (catN xs j).length ((catN xs j).map (Value.int .u8)) rfl HO.out ⟨g j, o j, none⟩ L (c j) ((xs j).map (Value.int .u8)) rfl (by simp [HL.out]) HN.out (ints_oneCell _ _) ?d3 ?d4 tr.size ?_)
          case d3 => have := HB.out; unfold maxLen; omega
          case d4 => have := HB.out; omega
          intro v' w' ho' hg' _ _
          have t' := tr.grown hg' (fun q h hq => by have := (HO.out.lt q h).1; omega)
          have e' : (catN xs j).length + L = (catN xs (j + 1)).length := by rw [catN_next, List.length_append, HL.out]
          rw [e', ← List.map_append, ← catN_next] at ho'
          have HO2 := Lib.hid ho'
          clear ho' e'
          go_wp2_with fail
          go_round
          case rel => exact ⟨j + 1, by omega, by go_num, HO2.out, t'⟩
          case measure => simp [intOf]; omega
        · obtain rfl : j = k := by omega
          go_wp2_with fail
          go_ret
          refine ⟨_, rfl, Reads.of_owns HO.out, fun q hq => (HO.out.lt q hq).1, tr⟩
end Go.Proofs.YtboofamenpcnhaaGreatDoor
