/- Own contracts: a disk's head: what its small calls tell and turn. No statement is proved here. -/
import Derived.Test.YtakmkkgpkbpbkaaStart
namespace Go.Proofs.Ytakmkkgpkbpbkaa
open Go.RowKit
set_option linter.unusedVariables false
set_option linter.unusedSimpArgs false

/-- The six cells of a disk. -/
structure HeadM where
  sv : Value
  wv : Value
  acts : Nat
  armed : Bool
  left : Nat
  off : Bool
def HeadM.cells (h : HeadM) : Array Value := #[h.sv, h.wv, .int .i64 (h.acts : Int), .bool h.armed, .int .i64 (h.left : Int), .bool h.off]
def Head (w : World) (D : Nat) (h : HeadM) : Prop := w.heap[D]? = some (.cells h.cells 55 (0, 0))
theorem Head.lt {w : World} {D : Nat} {h : HeadM} (hd : Head w D h) : D < w.heap.size := (Array.getElem?_eq_some_iff.1 hd).1
theorem Head.cell {w : World} {D : Nat} {h : HeadM} (hd : Head w D h) (i : Nat) : w.cell? ⟨D, i, none⟩ = h.cells[i]? := cell_of_row w D i _ 55 (0, 0) hd
theorem Head.free {w : World} {D : Nat} {h : HeadM} (hd : Head w D h) (i : Nat) : w.frozen? ⟨D, i, none⟩ = false := frozen_of_row w D i _ 55 hd
theorem Head.turn {w w' : World} {D : Nat} {h : HeadM} {S : Nat → Prop} (hd : Head w D h) (ht : Turn S w w') (hn : ¬ S D) : Head w' D h := (ht.block D hd.lt hn).trans hd
theorem Head.set {w : World} {D : Nat} {h h' : HeadM} (hd : Head w D h) (i : Nat) (v : Value) (e : h.cells.setIfInBounds i v = h'.cells) : Head (w.setCell ⟨D, i, none⟩ v) D h' := by
  unfold Head
  rw [heap_setCell_same w D i _ 55 _ hd, e]
theorem Head.all {w : World} {D : Nat} {h : HeadM} (hd : Head w D h) :
    w.cell? ⟨D, 0, none⟩ = some h.sv ∧ w.cell? ⟨D, 1, none⟩ = some h.wv ∧ w.cell? ⟨D, 2, none⟩ = some (.int .i64 (h.acts : Int)) ∧ w.cell? ⟨D, 3, none⟩ = some (.bool h.armed) ∧ w.cell? ⟨D, 4, none⟩ = some (.int .i64 (h.left : Int)) ∧ w.cell? ⟨D, 5, none⟩ = some (.bool h.off) :=
  ⟨hd.cell 0, hd.cell 1, hd.cell 2, hd.cell 3, hd.cell 4, hd.cell 5⟩
theorem turn_cell (w : World) (D i : Nat) (v : Value) : Turn (fun k => k = D) w (w.setCell ⟨D, i, none⟩ v) := Turn.setCell (S := fun k => k = D) (Turn.refl _ w) (p := ⟨D, i, none⟩) (fun _ => rfl) v

/-- One act more. -/
def HeadM.act (h : HeadM) : HeadM :=
  if h.armed = false then { h with acts := h.acts + 1 } else if h.left = 0 then { h with acts := h.acts + 1, off := true } else { h with acts := h.acts + 1, left := h.left - 1 }
def HeadM.actE (h : HeadM) : Int := if h.armed = false then 0 else if h.left = 0 then 9 else 0

set_option maxHeartbeats 800000 in
set_option maxRecDepth 100000 in
theorem act_any (D : Nat) (h : HeadM) (w : World) (hd : Head w D h) (hb : h.acts < 4611686018427387904) (hl : h.left < 4611686018427387904) :
    Calls Try.prog 44 #[.pointer (some ⟨D, 0, none⟩)] w fun e w' => e = .returned (.int .i64 h.actE) ∧ Head w' D h.act ∧ Turn (fun k => k = D) w w' := by
  obtain ⟨sv, wv, acts, armed, left, off⟩ := h
  obtain ⟨c0, c1, c2, c3, c4, c5⟩ := hd.all
  have f2 := hd.free 2
  have f4 := hd.free 4
  have f5 := hd.free 5
  dsimp only at c0 c1 c2 c3 c4 c5 hb hl
  have HD := Lib.hid hd
  clear hd
  cases armed with
  | false =>
    go_enter Try.func44, Try.ntmps44
    go_wp2_with fail
    go_ret
    exact ⟨rfl, HD.out.set 2 _ rfl, turn_cell _ _ _ _⟩
  | true =>
    by_cases h0 : left = 0
    · subst h0
      go_enter Try.func44, Try.ntmps44
      go_wp2_with fail
      go_ret
      have H1 : Head (w.setCell ⟨D, 2, none⟩ (.int .i64 ((acts : Int) + 1))) D ⟨sv, wv, acts + 1, true, 0, off⟩ := HD.out.set 2 _ rfl
      exact ⟨rfl, H1.set 5 _ rfl, (turn_cell _ _ _ _).trans (turn_cell _ _ _ _) (fun _ _ => id)⟩
    · have hne : ((left : Int) == 0) = false := by rw [beq_eq_false_iff_ne]; omega
      go_enter Try.func44, Try.ntmps44
      go_wp2_with fail
      go_ret
      have H1 : Head (w.setCell ⟨D, 2, none⟩ (.int .i64 ((acts : Int) + 1))) D ⟨sv, wv, acts + 1, true, left, off⟩ := HD.out.set 2 _ rfl
      have e1 : HeadM.actE ⟨sv, wv, acts, true, left, off⟩ = 0 := by simp [HeadM.actE, h0]
      have e2 : HeadM.act ⟨sv, wv, acts, true, left, off⟩ = ⟨sv, wv, acts + 1, true, left - 1, off⟩ := by simp [HeadM.act, h0]
      rw [e1, e2]
      refine ⟨rfl, H1.set 4 _ ?_, (turn_cell _ _ _ _).trans (turn_cell _ _ _ _) (fun _ _ => id)⟩
      simp [HeadM.cells]; omega

set_option maxHeartbeats 800000 in
set_option maxRecDepth 100000 in
theorem arm_any (D : Nat) (h : HeadM) (w : World) (n : Int) (hd : Head w D h) (hn : -9223372036854775808 ≤ n ∧ n < 9223372036854775808) :
    Calls Try.prog 12 #[.pointer (some ⟨D, 0, none⟩), .int .i64 n] w fun e w' => e = .returned (.tuple #[]) ∧ Head w' D { h with armed := decide (0 ≤ n), left := n.toNat } ∧ Turn (fun k => k = D) w w' := by
  obtain ⟨sv, wv, acts, armed, left, off⟩ := h
  obtain ⟨c0, c1, c2, c3, c4, c5⟩ := hd.all
  have f3 := hd.free 3
  have f4 := hd.free 4
  dsimp only at c0 c1 c2 c3 c4 c5
  have HD := Lib.hid hd
  clear hd
  by_cases h0 : 0 ≤ n
  · obtain ⟨m, rfl⟩ := Int.eq_ofNat_of_zero_le h0
    have hd0 : decide ((0 : Int) ≤ (m : Int)) = true := by simp
    go_enter Try.func12, Try.ntmps12
    go_wp2_with fail
    go_end0
    have H1 : Head (w.setCell ⟨D, 3, none⟩ (.bool true)) D ⟨sv, wv, acts, true, left, off⟩ := HD.out.set 3 _ rfl
    exact ⟨rfl, H1.set 4 _ (by rw [hd0]; rfl), (turn_cell _ _ _ _).trans (turn_cell _ _ _ _) (fun _ _ => id)⟩
  · have hd0 : decide ((0 : Int) ≤ n) = false := by simp; omega
    have hn0 : n.toNat = 0 := by omega
    rw [hd0, hn0]
    go_enter Try.func12, Try.ntmps12
    go_wp2_with fail
    go_end0
    have H1 : Head (w.setCell ⟨D, 3, none⟩ (.bool false)) D ⟨sv, wv, acts, false, left, off⟩ := HD.out.set 3 _ rfl
    exact ⟨rfl, H1.set 4 _ rfl, (turn_cell _ _ _ _).trans (turn_cell _ _ _ _) (fun _ _ => id)⟩

set_option maxHeartbeats 800000 in
theorem sectors_any (D n c : Nat) (a : Option Addr) (h : HeadM) (w : World) (hd : Head w D h) (hs : h.sv = .slice a n c) :
    Calls Try.prog 20 #[.pointer (some ⟨D, 0, none⟩)] w fun e w' => e = .returned (.int .i64 (n : Int)) ∧ w' = w := by
  obtain ⟨c0, _⟩ := hd.all
  rw [hs] at c0
  clear hd
  go_enter Try.func20, Try.ntmps20
  go_wp2_with fail
  go_ret
  exact ⟨rfl, rfl⟩
set_option maxHeartbeats 800000 in
theorem on_any (D : Nat) (h : HeadM) (w : World) (hd : Head w D h) :
    Calls Try.prog 33 #[.pointer (some ⟨D, 0, none⟩)] w fun e w' => e = .returned (.bool (!h.off)) ∧ w' = w := by
  obtain ⟨_, _, _, _, _, c5⟩ := hd.all
  clear hd
  go_enter Try.func33, Try.ntmps33
  go_wp2_with fail
  go_ret
  exact ⟨rfl, rfl⟩
set_option maxHeartbeats 800000 in
set_option maxHeartbeats 800000 in
set_option maxHeartbeats 800000 in
theorem has_any (D n c : Nat) (a : Option Addr) (i : Int) (h : HeadM) (w : World) (hd : Head w D h) (hs : h.sv = .slice a n c) :
    Calls Try.prog 40 #[.pointer (some ⟨D, 0, none⟩), .int .i64 i] w fun e w' => e = .returned (.bool (decide (0 ≤ i ∧ i < (n : Int)))) ∧ w' = w := by
  have HD := Lib.hid hd
  clear hd
  by_cases h0 : 0 ≤ i
  · have d0 : decide ((0 : Int) ≤ i) = true := by simp [h0]
    go_enter Try.func40, Try.ntmps40
    go_wp2_with fail
    refine (sectors_any D n c a h w HD.out hs).mono ?_
    rintro e w1 ⟨rfl, rfl⟩
    go_wp2_with fail
    go_ret
    refine ⟨?_, rfl⟩
    show Ending.returned (.bool (decide (i < (n : Int)))) = _
    simp [h0]
  · have d0 : decide ((0 : Int) ≤ i) = false := by simp; omega
    go_enter Try.func40, Try.ntmps40
    go_wp2_with fail
    go_ret
    refine ⟨?_, rfl⟩
    rfl

/-! A nil disk. -/
set_option maxHeartbeats 800000 in
theorem nil_sectors (w : World) : Calls Try.prog 20 #[.pointer none] w fun e w' => e = .returned (.int .i64 0) ∧ w' = w := by
  go_enter Try.func20, Try.ntmps20
  go_wp2_with fail
  go_ret
  exact ⟨rfl, rfl⟩
set_option maxHeartbeats 800000 in
theorem nil_on (w : World) : Calls Try.prog 33 #[.pointer none] w fun e w' => e = .returned (.bool false) ∧ w' = w := by
  go_enter Try.func33, Try.ntmps33
  go_wp2_with fail
  go_ret
  exact ⟨rfl, rfl⟩
set_option maxHeartbeats 800000 in
set_option maxHeartbeats 800000 in
set_option maxHeartbeats 800000 in
theorem nil_flush (w : World) : Calls Try.prog 39 #[.pointer none] w fun e w' => e = .returned (.int .i64 2) ∧ w' = w := by
  go_enter Try.func39, Try.ntmps39
  go_wp2_with fail
  go_ret
  exact ⟨rfl, rfl⟩
set_option maxHeartbeats 800000 in
theorem nil_arm (w : World) (n : Int) : Calls Try.prog 12 #[.pointer none, .int .i64 n] w fun e w' => e = .returned (.tuple #[]) ∧ w' = w := by
  go_enter Try.func12, Try.ntmps12
  go_wp2_with fail
  go_end0
  exact ⟨rfl, rfl⟩
set_option maxHeartbeats 800000 in
theorem nil_crash (w : World) (a : Option Addr) (n c : Nat) : Calls Try.prog 16 #[.pointer none, .slice a n c] w fun e w' => e = .returned (.tuple #[]) ∧ Turn (fun _ => False) w w' := by
  go_enter Try.func16, Try.ntmps16
  go_wp2_with fail
  refine bodyPost_ret (results_none rfl _ _ _) rfl ?_
  exact ⟨rfl, (Turn.refl _ w).alloc _⟩
set_option maxHeartbeats 800000 in
set_option maxHeartbeats 800000 in
theorem nil_has (w : World) (i : Int) : Calls Try.prog 40 #[.pointer none, .int .i64 i] w fun e w' => e = .returned (.bool false) ∧ w' = w := by
  by_cases h0 : 0 ≤ i
  · have d0 : decide ((0 : Int) ≤ i) = true := by simp [h0]
    have d1 : decide (i < (0 : Int)) = false := by simp; omega
    go_enter Try.func40, Try.ntmps40
    go_wp2_with fail
    refine (nil_sectors w).mono ?_
    rintro e w1 ⟨rfl, rfl⟩
    go_wp2_with fail
    go_ret
    exact ⟨rfl, rfl⟩
  · have d0 : decide ((0 : Int) ≤ i) = false := by simp; omega
    go_enter Try.func40, Try.ntmps40
    go_wp2_with fail
    go_ret
    exact ⟨rfl, rfl⟩
set_option maxHeartbeats 800000 in
theorem nil_read (w : World) (i : Int) : Calls Try.prog 32 #[.pointer none, .int .i64 i] w fun e w' => e = .returned (.tuple #[.slice none 0 0, .int .i64 1]) ∧ w' = w := by
  go_enter Try.func32, Try.ntmps32
  go_wp2_with fail
  refine (nil_has w i).mono ?_
  rintro e w1 ⟨rfl, rfl⟩
  go_wp2_with fail
  go_ret2
  exact ⟨rfl, rfl⟩
set_option maxHeartbeats 800000 in
theorem nil_write (w : World) (i : Int) (v : Value) : Calls Try.prog 38 #[.pointer none, .int .i64 i, v] w fun e w' => e = .returned (.int .i64 1) ∧ w' = w := by
  go_enter Try.func38, Try.ntmps38
  go_wp2_with fail
  refine (nil_has w i).mono ?_
  rintro e w1 ⟨rfl, rfl⟩
  go_wp2_with fail
  go_ret
  exact ⟨rfl, rfl⟩
end Go.Proofs.Ytakmkkgpkbpbkaa
