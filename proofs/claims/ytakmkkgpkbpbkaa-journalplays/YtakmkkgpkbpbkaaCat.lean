/- Own contracts: two rows of bytes put together. No statement is proved here. -/
import Derived.Test.YtakmkkgpkbpbkaaNum
import Derived.Lib.AppendZeros
namespace Go.Proofs.Ytakmkkgpkbpbkaa
open Go.RowKit
set_option linter.unusedVariables false
set_option linter.unusedSimpArgs false

def GrowPost (w : World) (e : Ending) (w' : World) : Prop := ∃ v, e = .returned v ∧ w'.ownsRow w.heap.size 5 1 v 0 [] ∧ Turn (fun _ => False) w w'
set_option maxHeartbeats 1600000 in
set_option maxRecDepth 100000 in
theorem grow_any (n : Nat) (h0 : 0 < n) (hn : n ≤ 1000) (w : World) : Calls Try.prog 42 #[.slice none 0 0, .int .i64 (n : Int)] w (GrowPost w) := by
  obtain ⟨i0, hi, hz0, hz1, hz2⟩ := info_parts Try.info5
  have hrun := Lib.run_append_nil_zeros (P := Try.prog) w 31 3 31 5 i0 (.int .u8 0) .i64 .i64 Try.underlying31 Try.underlying3 hi hz0 n h0 (by rw [hz1]; decide) (by omega) (by rw [hz2]; omega)
  have HR := Lib.hid hrun
  have hd0 : decide ((n : Int) < 0) = false := by simp
  have hd1 : decide ((0 : Int) < (n : Int)) = true := by simp; omega
  have hge := grownCap_ge w n 0 5
  have hcm := grownCap_le_maxLen w n 0 5 (by simp only [maxLen]; omega)
  clear hrun
  go_enter Try.func42, Try.ntmps42
  go_wp2_with (at_builtin; refine Lib.wpList_append_run _ rfl _ _ _ _ rfl _ _ rfl rfl _ _ HR.out ?_)
  go_ret
  refine ⟨_, rfl, ⟨rfl, .inr ⟨w.heap.size, _, _, rfl, Nat.le_refl _, heap_alloc_new w.drew _, Nat.zero_le _, hcm, ?_, by simp⟩⟩, ((Turn.refl _ w).drew).alloc _⟩
  simp [size_zeroCells, Value.cells]
  omega

theorem news_of {w : World} {g o : Nat} {xs : List Int} (_ : True) (h : ∀ i, i < xs.length → w.cell? ⟨g, o + i, none⟩ = some (.int .u8 (xs.getD i 0))) : ∀ (j : Nat) u, (xs.map (Value.int .u8))[j]? = some u → w.cell? ((⟨g, o, none⟩ : Addr).add j) = some u := by
  intro j u hj
  have hjl : j < xs.length := by have := (List.getElem?_eq_some_iff.1 hj).1; simpa using this
  rw [Addr.add_mid, h j hjl]
  simp [hjl] at hj; subst hj; simp [List.getD, hjl]
/-- The bytes of two. -/
def catK (xs ys : List Int) (k : Nat) : List Int := if k = 0 then [] else if k = 1 then xs else xs ++ ys
set_option maxHeartbeats 1600000 in
set_option maxRecDepth 100000 in
theorem concat_any (w : World) (G c0 : Nat) (hc0 : 2 ≤ c0) (g1 o1 c1 g2 o2 c2 : Nat) (xs ys : List Int)
    (hG1 : w.cell? ⟨G, 0, none⟩ = some (.slice (some ⟨g1, o1, none⟩) xs.length c1)) (hG2 : w.cell? ⟨G, 1, none⟩ = some (.slice (some ⟨g2, o2, none⟩) ys.length c2))
    (h1 : ∀ i, i < xs.length → w.cell? ⟨g1, o1 + i, none⟩ = some (.int .u8 (xs.getD i 0))) (h2 : ∀ i, i < ys.length → w.cell? ⟨g2, o2 + i, none⟩ = some (.int .u8 (ys.getD i 0)))
    (hpos : 0 < xs.length + ys.length) (hle : xs.length + ys.length ≤ 1000) :
    Calls Try.prog 34 #[.slice (some ⟨G, 0, none⟩) 2 c0] w (Made w (xs ++ ys)) := by
  obtain ⟨i0, hi, hz0, hz1, hz2⟩ := info_parts Try.info5
  have H1 := Lib.hid h1
  have H2 := Lib.hid h2
  have hGlt := World.block_lt_of_cell? w _ hG1
  clear h1 h2
  obtain ⟨L1, hL1⟩ : ∃ L, xs.length = L := ⟨_, rfl⟩
  obtain ⟨L2, hL2⟩ : ∃ L, ys.length = L := ⟨_, rfl⟩
  rw [hL1] at hG1 hpos hle
  rw [hL2] at hG2 hpos hle
  have HL1 := Lib.hid hL1
  have HL2 := Lib.hid hL2
  clear hL1 hL2
  go_enter Try.func34, Try.ntmps34
  go_wp2_with fail
  go_loop [3, 11] (fun sv iv => ∃ (k : Nat), k ≤ 2 ∧ iv = .int .i64 (k : Int) ∧ sv = .int .i64 (((if k = 0 then 0 else if k = 1 then L1 else L1 + L2) : Nat) : Int)) (fun _ i => 2 - (intOf i).toNat)
  case atStart => exact ⟨0, Nat.zero_le _, rfl, rfl⟩
  case round =>
    obtain ⟨k, hk, rfl, rfl⟩ := hrel
    rcases (by omega : k = 0 ∨ k = 1 ∨ k = 2) with rfl | rfl | rfl
    · have hd : decide ((L1 : Int) < 0) = false := by simp
      go_wp2_with fail
      go_round
      case rel => exact ⟨1, by omega, by go_num, by simp⟩
      case measure => simp [intOf]
    · have hd : decide ((L1 : Int) + (L2 : Int) < 0) = false := by simp; omega
      go_wp2_with fail
      go_round
      case rel => exact ⟨2, by omega, by go_num, by simp⟩
      case measure => simp [intOf]
    · have hcast : (((if (2 : Nat) = 0 then 0 else if (2 : Nat) = 1 then L1 else L1 + L2) : Nat) : Int) = ((L1 + L2 : Nat) : Int) := by simp
      rw [hcast]
      go_wp2_with fail
      refine (grow_any (L1 + L2) hpos hle w).mono ?_
      rintro e w1 ⟨v1, rfl, ho1, t1⟩
      have hG1' := (t1.cell (p := ⟨G, 0, none⟩) hGlt id).trans hG1
      have hG2' := (t1.cell (p := ⟨G, 1, none⟩) hGlt id).trans hG2
      have HO1 := Lib.hid ho1
      go_wp2_with fail
      go_loopw [6, 27] (fun sv iv wr => ∃ (k : Nat), k ≤ 2 ∧ iv = .int .i64 (k : Int) ∧ wr.ownsRow w.heap.size 5 1 sv (catK xs ys k).length ((catK xs ys k).map (Value.int .u8)) ∧ Turn (fun _ => False) w wr) (fun _ i _ => 2 - (intOf i).toNat)
      case atStart => exact ⟨0, Nat.zero_le _, rfl, HO1.out, t1⟩
      case round =>
        obtain ⟨k, hk, rfl, ho, tr⟩ := hrel
        have HO := Lib.hid ho
        clear ho
        have hGa := (tr.cell (p := ⟨G, 0, none⟩) hGlt id).trans hG1
        have hGb := (tr.cell (p := ⟨G, 1, none⟩) hGlt id).trans hG2
        rcases (by omega : k = 0 ∨ k = 1 ∨ k = 2) with rfl | rfl | rfl
        · have hnews := news_of trivial (fun i hi => (tr.cell (p := ⟨g1, o1 + i, none⟩) (World.block_lt_of_cell? w _ (H1.out i hi)) id).trans (H1.out i hi))
          have HN := Lib.hid hnews
          clear hnews
          go_wp2_with (at_builtin; refine wpList_append_where _ rfl (.tmp 31) (.tmp 32) 31 rfl w.heap.size 5 i0 (.int .u8 0) 1 1 Try.underlying31 hi hz0 hz1 hz2 rfl (by decide) _ (catK xs ys 0).length ((catK xs ys 0).map (Value.int .u8)) rfl HO.out ⟨g1, o1, none⟩ L1 c1 (xs.map (Value.int .u8)) rfl (by simp [HL1.out]) HN.out (ints_oneCell _ _) ?d3 ?d4 tr.size ?_)
          case d3 => have := HL1.out; have := HL2.out; simp [catK]; unfold maxLen; omega
          case d4 => have := HL1.out; have := HL2.out; simp [catK]; omega
          intro v' w' ho' hg' _ _
          have t' := tr.grown hg' (fun q h hq => by have := (HO.out.lt q h).1; omega)
          have e' : (catK xs ys 0).length + L1 = (catK xs ys 1).length := by have := HL1.out; have := HL2.out; simp [catK]; try omega
          rw [e'] at ho'
          have e2 : (catK xs ys 0).map (Value.int .u8) ++ xs.map (Value.int .u8) = (catK xs ys 1).map (Value.int .u8) := by simp [catK]
          rw [e2] at ho'
          have HO2 := Lib.hid ho'
          clear ho' e' e2
          go_wp2_with fail
          go_round
          case rel => exact ⟨1, by omega, by go_num, HO2.out, t'⟩
          case measure => simp [intOf]
        · have hnews := news_of trivial (fun i hi => (tr.cell (p := ⟨g2, o2 + i, none⟩) (World.block_lt_of_cell? w _ (H2.out i hi)) id).trans (H2.out i hi))
          have HN := Lib.hid hnews
          clear hnews
          go_wp2_with (at_builtin; refine wpList_append_where _ rfl (.tmp 31) (.tmp 32) 31 rfl w.heap.size 5 i0 (.int .u8 0) 1 1 Try.underlying31 hi hz0 hz1 hz2 rfl (by decide) _ (catK xs ys 1).length ((catK xs ys 1).map (Value.int .u8)) rfl HO.out ⟨g2, o2, none⟩ L2 c2 (ys.map (Value.int .u8)) rfl (by simp [HL2.out]) HN.out (ints_oneCell _ _) ?d3 ?d4 tr.size ?_)
          case d3 => have := HL1.out; have := HL2.out; simp [catK]; unfold maxLen; omega
          case d4 => have := HL1.out; have := HL2.out; simp [catK]; omega
          intro v' w' ho' hg' _ _
          have t' := tr.grown hg' (fun q h hq => by have := (HO.out.lt q h).1; omega)
          have e' : (catK xs ys 1).length + L2 = (catK xs ys 2).length := by have := HL1.out; have := HL2.out; simp [catK]; try omega
          rw [e'] at ho'
          have e2 : (catK xs ys 1).map (Value.int .u8) ++ ys.map (Value.int .u8) = (catK xs ys 2).map (Value.int .u8) := by simp [catK]
          rw [e2] at ho'
          have HO2 := Lib.hid ho'
          clear ho' e' e2
          go_wp2_with fail
          go_round
          case rel => exact ⟨2, by omega, by go_num, HO2.out, t'⟩
          case measure => simp [intOf]
        · go_wp2_with fail
          go_ret
          refine ⟨_, rfl, Reads.of_owns HO.out, fun q hq => (HO.out.lt q hq).1, tr⟩
end Go.Proofs.Ytakmkkgpkbpbkaa
