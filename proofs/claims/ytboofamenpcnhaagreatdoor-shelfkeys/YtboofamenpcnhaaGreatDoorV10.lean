/- Own texts, packed: Q20. -/
import Derived.Test.YtboofamenpcnhaaGreatDoorV04
import Derived.Test.YtboofamenpcnhaaGreatDoorV09
import Derived.Test.YtboofamenpcnhaaGreatDoorV00
namespace Go.Proofs.YtboofamenpcnhaaGreatDoor
set_option maxRecDepth 100000
open Go.RowKit
set_option linter.unusedVariables false
set_option linter.unusedSimpArgs false
/-- A block of memory that holds words of 32 bits. -/
def Words (w : World) (B : Nat) (t : TypeId) (ws : List Int) : Prop := w.heap[B]? = some (.cells (ws.map (Value.int .u32)).toArray t (0, 0))
theorem Words.cell {w : World} {B : Nat} {t : TypeId} {ws : List Int} (h : Words w B t ws) (i : Nat) (hi : i < ws.length) : w.cell? ⟨B, i, none⟩ = some (.int .u32 (ws.getD i 0)) := by
  rw [cell_of_row w B i _ t (0, 0) h]
  simp [List.getD, hi]
theorem Words.open_ {w : World} {B : Nat} {t : TypeId} {ws : List Int} (h : Words w B t ws) (i : Nat) : w.frozen? ⟨B, i, none⟩ = false := frozen_of_row w B i _ t h
theorem Words.lt {w : World} {B : Nat} {t : TypeId} {ws : List Int} (h : Words w B t ws) : B < w.heap.size := (Array.getElem?_eq_some_iff.1 h).1
theorem Words.set {w : World} {B : Nat} {t : TypeId} {ws : List Int} (h : Words w B t ws) (i : Nat) (v : Int) : Words (w.setCell ⟨B, i, none⟩ (.int .u32 v)) B t (ws.set i v) := by
  unfold Words
  rw [heap_setCell_same w B i _ t _ h]
  simp
theorem Words.turn {w w' : World} {B : Nat} {t : TypeId} {ws : List Int} {S : Nat → Prop} (h : Words w B t ws) (ht : Turn S w w') (hB : ¬ S B) : Words w' B t ws := (ht.block B h.lt hB).trans h
/-- The four bytes of word i. -/
def word4 (b0 b1 b2 b3 : Int) : Int :=
  bits .or .u32 (bits .or .u32 (bits .or .u32 (IntKind.u32.wrap (IntKind.u32.wrap b0 * 16777216)) (IntKind.u32.wrap (IntKind.u32.wrap b1 * 65536))) (IntKind.u32.wrap (IntKind.u32.wrap b2 * 256))) (IntKind.u32.wrap b3)
def word (ps : List Int) (i : Nat) : Int := word4 (ps.getD (4 * i) 0) (ps.getD (4 * i + 1) 0) (ps.getD (4 * i + 2) 0) (ps.getD (4 * i + 3) 0)
/-- The sixteen words of a block. -/
def words16 (ps : List Int) : List Int := (List.range 16).map (word ps)
def sig0 (x : Int) : Int := bits .xor .u32 (bits .xor .u32 (rotr 7 x) (rotr 18 x)) (x / 8)
def sig1 (x : Int) : Int := bits .xor .u32 (bits .xor .u32 (rotr 17 x) (rotr 19 x)) (x / 1024)
/-- The next word, behind n of them. -/
def next (ws : List Int) (n : Nat) : Int :=
  IntKind.u32.wrap (IntKind.u32.wrap (IntKind.u32.wrap (ws.getD (n - 16) 0 + sig0 (ws.getD (n - 15) 0)) + ws.getD (n - 7) 0) + sig1 (ws.getD (n - 2) 0))
/-- The words of the first 16 + n rounds. -/
def sched (ps : List Int) : Nat → List Int
  | 0 => words16 ps
  | n + 1 => sched ps n ++ [next (sched ps n) (16 + n)]
theorem sched_len (ps : List Int) (n : Nat) : (sched ps n).length = 16 + n := by
  induction n with
  | zero => simp [sched, words16]
  | succ n ih => simp [sched, ih]; omega
theorem set_take {ws : List Int} {k : Nat} {v : Int} (h : k < ws.length) : (ws.set k v).take (k + 1) = ws.take k ++ [v] := by
  rw [List.take_succ_eq_append_getElem (by simpa using h), List.take_set_of_le (Nat.le_refl k)]
  simp
theorem words16_take (ps : List Int) (k : Nat) (h : k < 16) : (words16 ps).take (k + 1) = (words16 ps).take k ++ [word ps k] := by
  rw [List.take_succ_eq_append_getElem (by simp [words16]; omega)]
  simp [words16]
theorem size52 : (Tryz.prog.info? 138).map (·.size) = some 64 := by kernel_rfl
theorem zero_blocks (w W : World) (h : (w.alloc (.cells ((List.replicate 64 (0 : Int)).map (Value.int .u32)).toArray 138)).alloc (.cells ((List.replicate 64 (0 : Int)).map (Value.int .u32)).toArray 138) = W) :
    Words W w.heap.size 138 (List.replicate 64 0) ∧ Words W (w.heap.size + 1) 138 (List.replicate 64 0) ∧ Turn (fun _ => False) w W := by
  subst h
  exact ⟨heap_alloc2_old w _ _, heap_alloc2_new w _ _, ((Turn.refl _ w).alloc _).alloc _⟩
def SpreadPost (w : World) (ws : List Int) (e : Ending) (w' : World) : Prop := e = .returned (.agg (ws.map (Value.int .u32)).toArray) ∧ Turn (fun _ => False) w w'
set_option maxHeartbeats 1000000 in
set_option maxRecDepth 100000 in
theorem spread_any (g o l cap : Nat) (ps : List Int) (w : World) (hl : ps.length = 64) (hL : l = 64) (hc : 64 ≤ cap) (hcell : ∀ i, i < 64 → w.cell? ⟨g, o + i, none⟩ = some (.int .u8 (ps.getD i 0))) :
    Calls Tryz.prog 81 #[.slice (some ⟨g, o, none⟩) l cap] w (SpreadPost w (sched ps 48)) := by
  subst hL
  have HC := Lib.hid hcell
  have hgw : g < w.heap.size := World.block_lt_of_cell? w _ (hcell 0 (by omega))
  clear hcell
  go_enter Tryz.func81, Tryz.ntmps81
  go_wp2_with fail
  generalize hW : World.alloc (World.alloc w _) _ = W
  obtain ⟨h1, h2, h3⟩ := zero_blocks w W hW
  clear hW
  go_loopw [10] (fun i wr => ∃ (k : Nat) (ws : List Int), k ≤ 16 ∧ i = .int .i64 (k : Int) ∧ ws.length = 64 ∧ ws.take k = (words16 ps).take k ∧ Words wr (w.heap.size + 1) 138 ws ∧ Words wr w.heap.size 138 (List.replicate 64 0) ∧ Turn (fun _ => False) w wr) (fun i _ => 16 - (intOf i).toNat)
  case atStart => exact ⟨0, _, Nat.zero_le _, rfl, by simp, by simp, h2, h1, h3⟩
  case round =>
    obtain ⟨k, ws, hk, rfl, hwl, hws, hW2, hW1, hT⟩ := hrel
    by_cases hlt : k < 16
    · have HS := Lib.hid hws
      have HW := Lib.hid hwl
      have c0 := (hT.cell (p := ⟨g, o + 4 * k, none⟩) hgw id).trans (HC.out (4 * k) (by omega))
      have c1 := (hT.cell (p := ⟨g, o + (4 * k + 1), none⟩) hgw id).trans (HC.out (4 * k + 1) (by omega))
      have c2 := (hT.cell (p := ⟨g, o + (4 * k + 2), none⟩) hgw id).trans (HC.out (4 * k + 2) (by omega))
      have c3 := (hT.cell (p := ⟨g, o + (4 * k + 3), none⟩) hgw id).trans (HC.out (4 * k + 3) (by omega))
      obtain ⟨b0, e0⟩ : ∃ b, ps.getD (4 * k) 0 = b := ⟨_, rfl⟩
      obtain ⟨b1, e1⟩ : ∃ b, ps.getD (4 * k + 1) 0 = b := ⟨_, rfl⟩
      obtain ⟨b2, e2⟩ : ∃ b, ps.getD (4 * k + 2) 0 = b := ⟨_, rfl⟩
      obtain ⟨b3, e3⟩ : ∃ b, ps.getD (4 * k + 3) 0 = b := ⟨_, rfl⟩
      have hword : word ps k = word4 b0 b1 b2 b3 := by rw [word, e0, e1, e2, e3]
      rw [e0] at c0
      rw [e1] at c1
      rw [e2] at c2
      rw [e3] at c3
      have HWD := Lib.hid hword
      have hcw := hW2.cell k (by omega)
      have hfw := hW2.open_ k
      clear hws hwl e0 e1 e2 e3 hword
      have f0 : IntKind.i64.wrap (4 * (k : Int)) = 4 * (k : Int) := IntWalk.i64_in _ (by omega)
      have f1 : IntKind.i64.wrap (4 * (k : Int) + 1) = 4 * (k : Int) + 1 := IntWalk.i64_in _ (by omega)
      have f2 : IntKind.i64.wrap (4 * (k : Int) + 2) = 4 * (k : Int) + 2 := IntWalk.i64_in _ (by omega)
      have f3 : IntKind.i64.wrap (4 * (k : Int) + 3) = 4 * (k : Int) + 3 := IntWalk.i64_in _ (by omega)
      have g0 : 0 ≤ 4 * (k : Int) ∧ 4 * (k : Int) < 64 := by omega
      have g1 : 0 ≤ 4 * (k : Int) + 1 ∧ 4 * (k : Int) + 1 < 64 := by omega
      have g2 : 0 ≤ 4 * (k : Int) + 2 ∧ 4 * (k : Int) + 2 < 64 := by omega
      have g3 : 0 ≤ 4 * (k : Int) + 3 ∧ 4 * (k : Int) + 3 < 64 := by omega
      have n0 : (4 * (k : Int)).toNat = 4 * k := by omega
      have n1 : (4 * (k : Int) + 1).toNat = 4 * k + 1 := by omega
      have n2 : (4 * (k : Int) + 2).toNat = 4 * k + 2 := by omega
      have n3 : (4 * (k : Int) + 3).toNat = 4 * k + 3 := by omega
      have k0 : 0 ≤ (k : Int) ∧ (k : Int) < 64 := by omega
      go_wp2_with fail
      refine wp_region_held_drew (S := fun w' => w'.cell? ⟨g, o + 4 * k, none⟩ = some (.int .u8 b0) ∧ w'.cell? ⟨g, o + (4 * k + 1), none⟩ = some (.int .u8 b1) ∧ w'.cell? ⟨g, o + (4 * k + 2), none⟩ = some (.int .u8 b2) ∧ w'.cell? ⟨g, o + (4 * k + 3), none⟩ = some (.int .u8 b3)) (by kernel_rfl) ?_ (fun hHeld => ?_)
      · exact ⟨c0, c1, c2, c3⟩
      refine wpAnyH_take (i := 0) (v := ?v0) rfl (by kernel_rfl) (by kernel_rfl) (by kernel_rfl) (fun _ _ _ h => h) (Or.inl ⟨by rfl, ?y0⟩) (by assumption) ?r0
      case y0 => (intro w hSw; (try dsimp only at hSw); (try simp only [zq1, zq2, zq3]); go_simp; try with_reducible rfl)
      case r0 =>
      try simp only [Act.put, zq4, zq5, zq6, zq1, zq2, zq3]
      refine wpAnyH_take (i := 1) (v := ?v1) rfl (by kernel_rfl) (by kernel_rfl) (by kernel_rfl) (fun _ _ _ h => h) (Or.inl ⟨by rfl, ?y1⟩) (by assumption) ?r1
      case y1 => (intro w hSw; (try dsimp only at hSw); (try simp only [zq1, zq2, zq3]); go_simp; try with_reducible rfl)
      case r1 =>
      try simp only [Act.put, zq4, zq5, zq6, zq1, zq2, zq3]
      refine wpAnyH_take (i := 2) (v := ?v2) rfl (by kernel_rfl) (by kernel_rfl) (by kernel_rfl) (fun _ _ _ h => h) (Or.inl ⟨by rfl, ?y2⟩) (by assumption) ?r2
      case y2 => (intro w hSw; (try dsimp only at hSw); (try simp only [zq1, zq2, zq3]); go_simp; try with_reducible rfl)
      case r2 =>
      try simp only [Act.put, zq4, zq5, zq6, zq1, zq2, zq3]
      refine wpAnyH_take (i := 3) (v := ?v3) rfl (by kernel_rfl) (by kernel_rfl) (by kernel_rfl) (fun _ _ _ h => h) (Or.inl ⟨by rfl, ?y3⟩) (by assumption) ?r3
      case y3 => (intro w hSw; (try dsimp only at hSw); (try simp only [zq1, zq2, zq3]); go_simp; try with_reducible rfl)
      case r3 =>
      try simp only [Act.put, zq4, zq5, zq6, zq1, zq2, zq3]
      refine wpAnyH_take (i := 4) (v := ?v4) rfl (by kernel_rfl) (by kernel_rfl) (by kernel_rfl) (fun _ _ _ h => h) (Or.inl ⟨by rfl, ?y4⟩) (by assumption) ?r4
      case y4 => (intro w hSw; (try dsimp only at hSw); (try simp only [zq1, zq2, zq3]); go_simp; try with_reducible rfl)
      case r4 =>
      try simp only [Act.put, zq4, zq5, zq6, zq1, zq2, zq3]
      refine wpAnyH_take (i := 5) (v := ?v5) rfl (by kernel_rfl) (by kernel_rfl) (by kernel_rfl) (fun _ _ _ h => h) (Or.inl ⟨by rfl, ?y5⟩) (by assumption) ?r5
      case y5 => (intro w hSw; (try dsimp only at hSw); (try simp only [zq1, zq2, zq3]); go_simp; try with_reducible rfl)
      case r5 =>
      try simp only [Act.put, zq4, zq5, zq6, zq1, zq2, zq3]
      refine wpAnyH_take (i := 6) (v := ?v6) rfl (by kernel_rfl) (by kernel_rfl) (by kernel_rfl) (fun _ _ _ h => h) (Or.inl ⟨by rfl, ?y6⟩) (by assumption) ?r6
      case y6 => (intro w hSw; (try dsimp only at hSw); (try simp only [zq1, zq2, zq3]); go_simp; try with_reducible rfl)
      case r6 =>
      try simp only [Act.put, zq4, zq5, zq6, zq1, zq2, zq3]
      refine wpAnyH_take (i := 7) (v := ?v7) rfl (by kernel_rfl) (by kernel_rfl) (by kernel_rfl) (fun _ _ _ h => h) (Or.inl ⟨by rfl, ?y7⟩) (by assumption) ?r7
      case y7 => (intro w hSw; (try dsimp only at hSw); (try simp only [zq1, zq2, zq3]); go_simp; try with_reducible rfl)
      case r7 =>
      try simp only [Act.put, zq4, zq5, zq6, zq1, zq2, zq3]
      refine wpAnyH_take (i := 8) (v := ?v8) rfl (by kernel_rfl) (by kernel_rfl) (by kernel_rfl) (fun _ _ _ h => h) (Or.inl ⟨by rfl, ?y8⟩) (by assumption) ?r8
      case y8 => (intro w hSw; (try dsimp only at hSw); (try simp only [zq1, zq2, zq3]); go_simp; try with_reducible rfl)
      case r8 =>
      try simp only [Act.put, zq4, zq5, zq6, zq1, zq2, zq3]
      refine wpAnyH_take (i := 9) (v := ?v9) rfl (by kernel_rfl) (by kernel_rfl) (by kernel_rfl) (fun _ _ _ h => h) (Or.inl ⟨by rfl, ?y9⟩) (by assumption) ?r9
      case y9 => (intro w hSw; (try dsimp only at hSw); (try simp only [zq1, zq2, zq3]); go_simp; try with_reducible rfl)
      case r9 =>
      try simp only [Act.put, zq4, zq5, zq6, zq1, zq2, zq3]
      refine wpAnyH_take (i := 10) (v := ?v10) rfl (by kernel_rfl) (by kernel_rfl) (by kernel_rfl) (fun _ _ _ h => h) (Or.inl ⟨by rfl, ?y10⟩) (by assumption) ?r10
      case y10 => (intro w hSw; (try dsimp only at hSw); (try simp only [zq1, zq2, zq3]); go_simp; try with_reducible rfl)
      case r10 =>
      try simp only [Act.put, zq4, zq5, zq6, zq1, zq2, zq3]
      refine wpAnyH_take (i := 11) (v := ?v11) rfl (by kernel_rfl) (by kernel_rfl) (by kernel_rfl) (fun _ _ _ h => h) (Or.inl ⟨by rfl, ?y11⟩) (by assumption) ?r11
      case y11 => (intro w hSw; (try dsimp only at hSw); (try simp only [zq1, zq2, zq3]); go_simp; try with_reducible rfl)
      case r11 =>
      try simp only [Act.put, zq4, zq5, zq6, zq1, zq2, zq3]
      refine wpAnyH_take (i := 12) (v := ?v12) rfl (by kernel_rfl) (by kernel_rfl) (by kernel_rfl) (fun _ _ _ h => h) (Or.inl ⟨by rfl, ?y12⟩) (by assumption) ?r12
      case y12 => (intro w hSw; (try dsimp only at hSw); (try simp only [zq1, zq2, zq3]); go_simp; try with_reducible rfl)
      case r12 =>
      try simp only [Act.put, zq4, zq5, zq6, zq1, zq2, zq3]
      refine wpAnyH_take (i := 13) (v := ?v13) rfl (by kernel_rfl) (by kernel_rfl) (by kernel_rfl) (fun _ _ _ h => h) (Or.inl ⟨by rfl, ?y13⟩) (by assumption) ?r13
      case y13 => (intro w hSw; (try dsimp only at hSw); (try simp only [zq1, zq2, zq3]); go_simp; try with_reducible rfl)
      case r13 =>
      try simp only [Act.put, zq4, zq5, zq6, zq1, zq2, zq3]
      refine wpAnyH_take (i := 14) (v := ?v14) rfl (by kernel_rfl) (by kernel_rfl) (by kernel_rfl) (fun _ _ _ h => h) (Or.inl ⟨by rfl, ?y14⟩) (by assumption) ?r14
      case y14 => (intro w hSw; (try dsimp only at hSw); (try simp only [zq1, zq2, zq3]); go_simp; try with_reducible rfl)
      case r14 =>
      try simp only [Act.put, zq4, zq5, zq6, zq1, zq2, zq3]
      refine wpAnyH_take (i := 15) (v := ?v15) rfl (by kernel_rfl) (by kernel_rfl) (by kernel_rfl) (fun _ _ _ h => h) (Or.inl ⟨by rfl, ?y15⟩) (by assumption) ?r15
      case y15 => (intro w hSw; (try dsimp only at hSw); (try simp only [zq1, zq2, zq3]); go_simp; try with_reducible rfl)
      case r15 =>
      try simp only [Act.put, zq4, zq5, zq6, zq1, zq2, zq3]
      refine wpAnyH_take (i := 16) (v := ?v16) rfl (by kernel_rfl) (by kernel_rfl) (by kernel_rfl) (fun _ _ _ h => h) (Or.inl ⟨by rfl, ?y16⟩) (by assumption) ?r16
      case y16 => (intro w hSw; (try dsimp only at hSw); (try simp only [zq1, zq2, zq3]); go_simp; try with_reducible rfl)
      case r16 =>
      try simp only [Act.put, zq4, zq5, zq6, zq1, zq2, zq3]
      refine wpAnyH_take (i := 17) (v := ?v17) rfl (by kernel_rfl) (by kernel_rfl) (by kernel_rfl) (fun _ _ _ h => h) (Or.inl ⟨by rfl, ?y17⟩) (by assumption) ?r17
      case y17 => (intro w hSw; (try dsimp only at hSw); (try simp only [zq1, zq2, zq3]); go_simp; try with_reducible rfl)
      case r17 =>
      try simp only [Act.put, zq4, zq5, zq6, zq1, zq2, zq3]
      refine wpAnyH_take (i := 18) (v := ?v18) rfl (by kernel_rfl) (by kernel_rfl) (by kernel_rfl) (fun _ _ _ h => h) (Or.inl ⟨by rfl, ?y18⟩) (by assumption) ?r18
      case y18 => (intro w hSw; (try dsimp only at hSw); (try simp only [zq1, zq2, zq3]); go_simp; try with_reducible rfl)
      case r18 =>
      try simp only [Act.put, zq4, zq5, zq6, zq1, zq2, zq3]
      refine wpAnyH_take (i := 19) (v := ?v19) rfl (by kernel_rfl) (by kernel_rfl) (by kernel_rfl) (fun _ _ _ h => h) (Or.inl ⟨by rfl, ?y19⟩) (by assumption) ?r19
      case y19 => (intro w hSw; (try dsimp only at hSw); (try simp only [zq1, zq2, zq3]); go_simp; try with_reducible rfl)
      case r19 =>
      try simp only [Act.put, zq4, zq5, zq6, zq1, zq2, zq3]
      refine wpAnyH_take (i := 20) (v := ?v20) rfl (by kernel_rfl) (by kernel_rfl) (by kernel_rfl) (fun _ _ _ h => h) (Or.inl ⟨by rfl, ?y20⟩) (by assumption) ?r20
      case y20 => (intro w hSw; (try dsimp only at hSw); (try simp only [zq1, zq2, zq3]); go_simp; try with_reducible rfl)
      case r20 =>
      try simp only [Act.put, zq4, zq5, zq6, zq1, zq2, zq3]
      refine wpAnyH_take (i := 21) (v := ?v21) rfl (by kernel_rfl) (by kernel_rfl) (by kernel_rfl) (fun _ _ _ h => h) (Or.inl ⟨by rfl, ?y21⟩) (by assumption) ?r21
      case y21 => (intro w hSw; (try dsimp only at hSw); (try simp only [zq1, zq2, zq3]); go_simp; try with_reducible rfl)
      case r21 =>
      try simp only [Act.put, zq4, zq5, zq6, zq1, zq2, zq3]
      refine wpAnyH_take (i := 22) (v := ?v22) rfl (by kernel_rfl) (by kernel_rfl) (by kernel_rfl) (fun _ _ _ h => h) (Or.inl ⟨by rfl, ?y22⟩) (by assumption) ?r22
      case y22 => (intro w hSw; (try dsimp only at hSw); (try simp only [zq1, zq2, zq3]); go_simp; try with_reducible rfl)
      case r22 =>
      try simp only [Act.put, zq4, zq5, zq6, zq1, zq2, zq3]
      refine wpAnyH_take (i := 23) (v := ?v23) rfl (by kernel_rfl) (by kernel_rfl) (by kernel_rfl) (fun _ _ _ h => h) (Or.inl ⟨by rfl, ?y23⟩) (by assumption) ?r23
      case y23 => (intro w hSw; (try dsimp only at hSw); (try simp only [zq1, zq2, zq3]); go_simp; try with_reducible rfl)
      case r23 =>
      try simp only [Act.put, zq4, zq5, zq6, zq1, zq2, zq3]
      refine wpAnyH_take (i := 24) (v := ?v24) rfl (by kernel_rfl) (by kernel_rfl) (by kernel_rfl) (fun _ _ _ h => h) (Or.inl ⟨by rfl, ?y24⟩) (by assumption) ?r24
      case y24 => (intro w hSw; (try dsimp only at hSw); (try simp only [zq1, zq2, zq3]); go_simp; try with_reducible rfl)
      case r24 =>
      try simp only [Act.put, zq4, zq5, zq6, zq1, zq2, zq3]
      refine wpAnyH_take (i := 25) (v := ?v25) rfl (by kernel_rfl) (by kernel_rfl) (by kernel_rfl) (fun _ _ _ h => h) (Or.inl ⟨by rfl, ?y25⟩) (by assumption) ?r25
      case y25 => (intro w hSw; (try dsimp only at hSw); (try simp only [zq1, zq2, zq3]); go_simp; try with_reducible rfl)
      case r25 =>
      try simp only [Act.put, zq4, zq5, zq6, zq1, zq2, zq3]
      refine wpAnyH_take (i := 26) (v := ?v26) rfl (by kernel_rfl) (by kernel_rfl) (by kernel_rfl) (fun _ _ _ h => h) (Or.inl ⟨by rfl, ?y26⟩) (by assumption) ?r26
      case y26 => (intro w hSw; (try dsimp only at hSw); (try simp only [zq1, zq2, zq3]); go_simp; try with_reducible rfl)
      case r26 =>
      try simp only [Act.put, zq4, zq5, zq6, zq1, zq2, zq3]
      refine wpAnyH_take (i := 27) (v := ?v27) rfl (by kernel_rfl) (by kernel_rfl) (by kernel_rfl) (fun _ _ _ h => h) (Or.inl ⟨by rfl, ?y27⟩) (by assumption) ?r27
      case y27 => (intro w hSw; (try dsimp only at hSw); (try simp only [zq1, zq2, zq3]); go_simp; try with_reducible rfl)
      case r27 =>
      try simp only [Act.put, zq4, zq5, zq6, zq1, zq2, zq3]
      refine wpAnyH_take (i := 28) (v := ?v28) rfl (by kernel_rfl) (by kernel_rfl) (by kernel_rfl) (fun _ _ _ h => h) (Or.inl ⟨by rfl, ?y28⟩) (by assumption) ?r28
      case y28 => (intro w hSw; (try dsimp only at hSw); (try simp only [zq1, zq2, zq3]); go_simp; try with_reducible rfl)
      case r28 =>
      try simp only [Act.put, zq4, zq5, zq6, zq1, zq2, zq3]
      refine wpAnyH_take (i := 29) (v := ?v29) rfl (by kernel_rfl) (by kernel_rfl) (by kernel_rfl) (fun _ _ _ h => h) (Or.inl ⟨by rfl, ?y29⟩) (by assumption) ?r29
      case y29 => (intro w hSw; (try dsimp only at hSw); (try simp only [zq1, zq2, zq3]); go_simp; try with_reducible rfl)
      case r29 =>
      try simp only [Act.put, zq4, zq5, zq6, zq1, zq2, zq3]
      refine wpAnyH_take (i := 30) (v := ?v30) rfl (by kernel_rfl) (by kernel_rfl) (by kernel_rfl) (fun _ _ _ h => h) (Or.inl ⟨by rfl, ?y30⟩) (by assumption) ?r30
      case y30 => (intro w hSw; (try dsimp only at hSw); (try simp only [zq1, zq2, zq3]); go_simp; try with_reducible rfl)
      case r30 =>
      try simp only [Act.put, zq4, zq5, zq6, zq1, zq2, zq3]
      refine wpAnyH_take (i := 31) (v := ?v31) rfl (by kernel_rfl) (by kernel_rfl) (by kernel_rfl) (fun _ _ _ h => h) (Or.inl ⟨by rfl, ?y31⟩) (by assumption) ?r31
      case y31 => (intro w hSw; (try dsimp only at hSw); (try simp only [zq1, zq2, zq3]); go_simp; try with_reducible rfl)
      case r31 =>
      try simp only [Act.put, zq4, zq5, zq6, zq1, zq2, zq3]
      refine wpAnyH_take (i := 32) (v := ?v32) rfl (by kernel_rfl) (by kernel_rfl) (by kernel_rfl) (fun _ _ _ h => h) (Or.inl ⟨by rfl, ?y32⟩) (by assumption) ?r32
      case y32 => (intro w hSw; (try dsimp only at hSw); (try simp only [zq1, zq2, zq3]); go_simp; try with_reducible rfl)
      case r32 =>
      try simp only [Act.put, zq4, zq5, zq6, zq1, zq2, zq3]
      refine wpAnyH_take (i := 33) (v := ?v33) rfl (by kernel_rfl) (by kernel_rfl) (by kernel_rfl) (fun _ _ _ h => h) (Or.inl ⟨by rfl, ?y33⟩) (by assumption) ?r33
      case y33 => (intro w hSw; (try dsimp only at hSw); (try simp only [zq1, zq2, zq3]); go_simp; try with_reducible rfl)
      case r33 =>
      try simp only [Act.put, zq4, zq5, zq6, zq1, zq2, zq3]
      refine wpAnyH_take (i := 34) (v := ?v34) rfl (by kernel_rfl) (by kernel_rfl) (by kernel_rfl) (fun _ _ _ h => h) (Or.inl ⟨by rfl, ?y34⟩) (by assumption) ?r34
      case y34 => (intro w hSw; (try dsimp only at hSw); (try simp only [zq1, zq2, zq3]); go_simp; try with_reducible rfl)
      case r34 =>
      try simp only [Act.put, zq4, zq5, zq6, zq1, zq2, zq3]
      refine wpAnyH_ready (rs := [35]) (by kernel_rfl) (by simp) ?_
      refine AllReadyH.cons rfl (fun K hK => ?_) AllReadyH.nil
      go_simp
      refine hK.out _ _ ?_ (fun hHeld9 => wpAnyH_done (by kernel_rfl) ?_ _)
      · exact ⟨(World.cell?_setCell_far wr ⟨w.heap.size + 1, k, none⟩ ⟨g, o + 4 * k, none⟩ _ (by simp; omega)).trans c0, (World.cell?_setCell_far wr ⟨w.heap.size + 1, k, none⟩ ⟨g, o + (4 * k + 1), none⟩ _ (by simp; omega)).trans c1, (World.cell?_setCell_far wr ⟨w.heap.size + 1, k, none⟩ ⟨g, o + (4 * k + 2), none⟩ _ (by simp; omega)).trans c2, (World.cell?_setCell_far wr ⟨w.heap.size + 1, k, none⟩ ⟨g, o + (4 * k + 3), none⟩ _ (by simp; omega)).trans c3⟩
      clear hK K hHeld hHeld9
      have hW2' := hW2.set k (word4 b0 b1 b2 b3)
      have hT1 : Turn (fun q => q = w.heap.size + 1) wr (wr.setCell ⟨w.heap.size + 1, k, none⟩ (.int .u32 (word4 b0 b1 b2 b3))) := (Turn.refl (fun q => q = w.heap.size + 1) wr).setCell (p := ⟨w.heap.size + 1, k, none⟩) (fun _ => rfl) _
      have hW1' := hW1.turn hT1 (by omega)
      have hT' := hT.trans hT1 (fun q hq h => by omega)
      change Exit.inBlock _ _ _ _ (World.drew (wr.setCell ⟨w.heap.size + 1, k, none⟩ (.int .u32 (word4 b0 b1 b2 b3))))
      generalize wr.setCell ⟨w.heap.size + 1, k, none⟩ (.int .u32 (word4 b0 b1 b2 b3)) = w9 at hW2' hT1 hW1' hT' ⊢
      clear hT1 hW1 hW2 hT c0 c1 c2 c3 hcw hfw f0 f1 f2 f3 n0 n1 n2 n3 g0 g1 g2 g3
      go_wp2
      go_roundw
      case rel =>
        refine ⟨k + 1, ws.set k (word4 b0 b1 b2 b3), by omega, by go_num, by simpa using HW.out, ?_, hW2', hW1', hT'.drew⟩
        rw [set_take (by rw [HW.out]; omega), HS.out, words16_take ps k hlt, HWD.out]
      case measure => simp [intOf]; omega
    · have hpre : ws.take 16 = sched ps 0 := by
        rw [show k = 16 by omega] at hws
        rw [hws]; exact List.take_of_length_le (by simp [words16])
      clear hws
      go_wp2_with fail
      go_loopw [5] (fun i wr => ∃ (n : Nat) (ws : List Int), n ≤ 48 ∧ i = .int .i64 ((16 + n : Nat) : Int) ∧ ws.length = 64 ∧ ws.take (16 + n) = sched ps n ∧ Words wr (w.heap.size + 1) 138 ws ∧ Words wr w.heap.size 138 (List.replicate 64 0) ∧ Turn (fun _ => False) w wr) (fun i _ => 64 - (intOf i).toNat)
      case atStart => exact ⟨0, ws, Nat.zero_le _, rfl, hwl, hpre, hW2, hW1, hT⟩
      case round =>
        clear hpre hwl hW1 hW2 hT
        obtain ⟨n, ws, hn, rfl, hwl, hws, hW2, hW1, hT⟩ := hrel
        by_cases hlt : n < 48
        · have HS := Lib.hid hws
          have HW := Lib.hid hwl
          have ca := hW2.cell (16 + n - 15) (by omega)
          have cb := hW2.cell (16 + n - 2) (by omega)
          have cc := hW2.cell (16 + n - 16) (by omega)
          have cd := hW2.cell (16 + n - 7) (by omega)
          have cw := hW2.cell (16 + n) (by omega)
          have hfw := hW2.open_ (16 + n)
          obtain ⟨a, ea⟩ : ∃ b, ws.getD (16 + n - 15) 0 = b := ⟨_, rfl⟩
          obtain ⟨b, eb⟩ : ∃ b, ws.getD (16 + n - 2) 0 = b := ⟨_, rfl⟩
          obtain ⟨c, ec⟩ : ∃ b, ws.getD (16 + n - 16) 0 = b := ⟨_, rfl⟩
          obtain ⟨d, ed⟩ : ∃ b, ws.getD (16 + n - 7) 0 = b := ⟨_, rfl⟩
          obtain ⟨z, ez⟩ : ∃ b, ws.getD (16 + n) 0 = b := ⟨_, rfl⟩
          rw [ea] at ca
          rw [eb] at cb
          rw [ec] at cc
          rw [ed] at cd
          rw [ez] at cw
          have hnx : next (sched ps n) (16 + n) = IntKind.u32.wrap (IntKind.u32.wrap (IntKind.u32.wrap (c + sig0 a) + d) + sig1 b) := by
            have q : ∀ j, j < 16 + n → (sched ps n).getD j 0 = ws.getD j 0 := fun j hj => by
              rw [← hws]; simp [List.getD, hj]
            rw [next, q _ (by omega), q _ (by omega), q _ (by omega), q _ (by omega), ea, eb, ec, ed]
          have HN := Lib.hid hnx
          clear hnx hws hwl ea eb ec ed ez
          obtain ⟨m, hm⟩ : ∃ m, 16 + n = m := ⟨_, rfl⟩
          rw [hm] at ca cb cc cd cw hfw
          have HM := Lib.hid hm
          have hm1 : 16 ≤ m := by omega
          have hm2 : m < 64 := by omega
          simp only [hm]
          clear hm
          have f15 : IntKind.i64.wrap ((m : Int) - 15) = (m : Int) - 15 := IntWalk.i64_in _ (by omega)
          have f2 : IntKind.i64.wrap ((m : Int) - 2) = (m : Int) - 2 := IntWalk.i64_in _ (by omega)
          have f16 : IntKind.i64.wrap ((m : Int) - 16) = (m : Int) - 16 := IntWalk.i64_in _ (by omega)
          have f7 : IntKind.i64.wrap ((m : Int) - 7) = (m : Int) - 7 := IntWalk.i64_in _ (by omega)
          have g15 : 0 ≤ (m : Int) - 15 ∧ (m : Int) - 15 < 64 := by omega
          have g2 : 0 ≤ (m : Int) - 2 ∧ (m : Int) - 2 < 64 := by omega
          have g16 : 0 ≤ (m : Int) - 16 ∧ (m : Int) - 16 < 64 := by omega
          have g7 : 0 ≤ (m : Int) - 7 ∧ (m : Int) - 7 < 64 := by omega
          have gm : 0 ≤ (m : Int) ∧ (m : Int) < 64 := by omega
          have i16 : (16 : Int) ≤ (m : Int) := by omega
          have i7 : (7 : Int) ≤ (m : Int) := by omega
          have n15 : ((m : Int) - 15).toNat = m - 15 := by omega
          have n2 : ((m : Int) - 2).toNat = m - 2 := by omega
          have n16 : ((m : Int) - 16).toNat = m - 16 := by omega
          have n7 : ((m : Int) - 7).toNat = m - 7 := by omega
          go_wp2_with fail
          go_quiet (fail)
          have W2 : Words (wr.drewN nq) (w.heap.size + 1) 138 ws := hW2
          have W1 : Words (wr.drewN nq) w.heap.size 138 (List.replicate 64 0) := hW1
          have T5 : Turn (fun _ => False) w (wr.drewN nq) := ⟨hT.os, hT.tape, hT.output, hT.size, hT.block⟩
          have cc' : (wr.drewN nq).cell? ⟨w.heap.size + 1, m - 16, none⟩ = some (.int .u32 c) := cc
          have cd' : (wr.drewN nq).cell? ⟨w.heap.size + 1, m - 7, none⟩ = some (.int .u32 d) := cd
          have cw' : (wr.drewN nq).cell? ⟨w.heap.size + 1, m, none⟩ = some (.int .u32 z) := cw
          have fw' : (wr.drewN nq).frozen? ⟨w.heap.size + 1, m, none⟩ = false := hfw
          generalize wr.drewN nq = w5 at W2 W1 T5 cc' cd' cw' fw' ⊢
          clear hW2 hW1 hT ca cb cc cd cw hfw f15 f2 g15 g2 n15 n2
          go_wp2_with fail
          refine (turn_at _ 7 rfl a (by omega) (by omega) _).mono ?_
          rintro e w' ⟨rfl, rfl⟩
          go_wp2_with fail
          refine (turn_at _ 18 rfl a (by omega) (by omega) _).mono ?_
          rintro e w' ⟨rfl, rfl⟩
          go_wp2_with fail
          refine (turn_at _ 17 rfl b (by omega) (by omega) _).mono ?_
          rintro e w' ⟨rfl, rfl⟩
          go_wp2_with fail
          refine (turn_at _ 19 rfl b (by omega) (by omega) _).mono ?_
          rintro e w' ⟨rfl, rfl⟩
          go_wp2_with fail
          refine wp_region_held_drew (S := fun w' => w'.cell? ⟨w.heap.size + 1, m - 16, none⟩ = some (.int .u32 c) ∧ w'.cell? ⟨w.heap.size + 1, m - 7, none⟩ = some (.int .u32 d)) (by kernel_rfl) ?_ (fun hHeld => ?_)
          · exact ⟨cc', cd'⟩
          refine wpAnyH_take (i := 0) (v := ?vb0) rfl (by kernel_rfl) (by kernel_rfl) (by kernel_rfl) (fun _ _ _ h => h) (Or.inl ⟨by rfl, ?yb0⟩) (by assumption) ?rb0
          case yb0 => (intro w hSw; (try dsimp only at hSw); (try simp only [zq1, zq2, zq3]); go_simp; try with_reducible rfl)
          case rb0 =>
          try simp only [Act.put, zq4, zq5, zq6, zq1, zq2, zq3]
          refine wpAnyH_take (i := 1) (v := ?vb1) rfl (by kernel_rfl) (by kernel_rfl) (by kernel_rfl) (fun _ _ _ h => h) (Or.inl ⟨by rfl, ?yb1⟩) (by assumption) ?rb1
          case yb1 => (intro w hSw; (try dsimp only at hSw); (try simp only [zq1, zq2, zq3]); go_simp; try with_reducible rfl)
          case rb1 =>
          try simp only [Act.put, zq4, zq5, zq6, zq1, zq2, zq3]
          refine wpAnyH_take (i := 2) (v := ?vb2) rfl (by kernel_rfl) (by kernel_rfl) (by kernel_rfl) (fun _ _ _ h => h) (Or.inl ⟨by rfl, ?yb2⟩) (by assumption) ?rb2
          case yb2 => (intro w hSw; (try dsimp only at hSw); (try simp only [zq1, zq2, zq3]); go_simp; try with_reducible rfl)
          case rb2 =>
          try simp only [Act.put, zq4, zq5, zq6, zq1, zq2, zq3]
          refine wpAnyH_take (i := 3) (v := ?vb3) rfl (by kernel_rfl) (by kernel_rfl) (by kernel_rfl) (fun _ _ _ h => h) (Or.inl ⟨by rfl, ?yb3⟩) (by assumption) ?rb3
          case yb3 => (intro w hSw; (try dsimp only at hSw); (try simp only [zq1, zq2, zq3]); go_simp; try with_reducible rfl)
          case rb3 =>
          try simp only [Act.put, zq4, zq5, zq6, zq1, zq2, zq3]
          refine wpAnyH_take (i := 4) (v := ?vb4) rfl (by kernel_rfl) (by kernel_rfl) (by kernel_rfl) (fun _ _ _ h => h) (Or.inl ⟨by rfl, ?yb4⟩) (by assumption) ?rb4
          case yb4 => (intro w hSw; (try dsimp only at hSw); (try simp only [zq1, zq2, zq3]); go_simp; try with_reducible rfl)
          case rb4 =>
          try simp only [Act.put, zq4, zq5, zq6, zq1, zq2, zq3]
          refine wpAnyH_take (i := 5) (v := ?vb5) rfl (by kernel_rfl) (by kernel_rfl) (by kernel_rfl) (fun _ _ _ h => h) (Or.inl ⟨by rfl, ?yb5⟩) (by assumption) ?rb5
          case yb5 => (intro w hSw; (try dsimp only at hSw); (try simp only [zq1, zq2, zq3]); go_simp; try with_reducible rfl)
          case rb5 =>
          try simp only [Act.put, zq4, zq5, zq6, zq1, zq2, zq3]
          refine wpAnyH_take (i := 6) (v := ?vb6) rfl (by kernel_rfl) (by kernel_rfl) (by kernel_rfl) (fun _ _ _ h => h) (Or.inl ⟨by rfl, ?yb6⟩) (by assumption) ?rb6
          case yb6 => (intro w hSw; (try dsimp only at hSw); (try simp only [zq1, zq2, zq3]); go_simp; try with_reducible rfl)
          case rb6 =>
          try simp only [Act.put, zq4, zq5, zq6, zq1, zq2, zq3]
          refine wpAnyH_take (i := 7) (v := ?vb7) rfl (by kernel_rfl) (by kernel_rfl) (by kernel_rfl) (fun _ _ _ h => h) (Or.inl ⟨by rfl, ?yb7⟩) (by assumption) ?rb7
          case yb7 => (intro w hSw; (try dsimp only at hSw); (try simp only [zq1, zq2, zq3]); go_simp; try with_reducible rfl)
          case rb7 =>
          try simp only [Act.put, zq4, zq5, zq6, zq1, zq2, zq3]
          refine wpAnyH_take (i := 8) (v := ?vb8) rfl (by kernel_rfl) (by kernel_rfl) (by kernel_rfl) (fun _ _ _ h => h) (Or.inl ⟨by rfl, ?yb8⟩) (by assumption) ?rb8
          case yb8 => (intro w hSw; (try dsimp only at hSw); (try simp only [zq1, zq2, zq3]); go_simp; try with_reducible rfl)
          case rb8 =>
          try simp only [Act.put, zq4, zq5, zq6, zq1, zq2, zq3]
          refine wpAnyH_take (i := 9) (v := ?vb9) rfl (by kernel_rfl) (by kernel_rfl) (by kernel_rfl) (fun _ _ _ h => h) (Or.inl ⟨by rfl, ?yb9⟩) (by assumption) ?rb9
          case yb9 => (intro w hSw; (try dsimp only at hSw); (try simp only [zq1, zq2, zq3]); go_simp; try with_reducible rfl)
          case rb9 =>
          try simp only [Act.put, zq4, zq5, zq6, zq1, zq2, zq3]
          refine wpAnyH_take (i := 10) (v := ?vb10) rfl (by kernel_rfl) (by kernel_rfl) (by kernel_rfl) (fun _ _ _ h => h) (Or.inl ⟨by rfl, ?yb10⟩) (by assumption) ?rb10
          case yb10 => (intro w hSw; (try dsimp only at hSw); (try simp only [zq1, zq2, zq3]); go_simp; try with_reducible rfl)
          case rb10 =>
          try simp only [Act.put, zq4, zq5, zq6, zq1, zq2, zq3]
          refine wpAnyH_take (i := 11) (v := ?vb11) rfl (by kernel_rfl) (by kernel_rfl) (by kernel_rfl) (fun _ _ _ h => h) (Or.inl ⟨by rfl, ?yb11⟩) (by assumption) ?rb11
          case yb11 => (intro w hSw; (try dsimp only at hSw); (try simp only [zq1, zq2, zq3]); go_simp; try with_reducible rfl)
          case rb11 =>
          try simp only [Act.put, zq4, zq5, zq6, zq1, zq2, zq3]
          refine wpAnyH_take (i := 12) (v := ?vb12) rfl (by kernel_rfl) (by kernel_rfl) (by kernel_rfl) (fun _ _ _ h => h) (Or.inl ⟨by rfl, ?yb12⟩) (by assumption) ?rb12
          case yb12 => (intro w hSw; (try dsimp only at hSw); (try simp only [zq1, zq2, zq3]); go_simp; try with_reducible rfl)
          case rb12 =>
          try simp only [Act.put, zq4, zq5, zq6, zq1, zq2, zq3]
          refine wpAnyH_take (i := 13) (v := ?vb13) rfl (by kernel_rfl) (by kernel_rfl) (by kernel_rfl) (fun _ _ _ h => h) (Or.inl ⟨by rfl, ?yb13⟩) (by assumption) ?rb13
          case yb13 => (intro w hSw; (try dsimp only at hSw); (try simp only [zq1, zq2, zq3]); go_simp; try with_reducible rfl)
          case rb13 =>
          try simp only [Act.put, zq4, zq5, zq6, zq1, zq2, zq3]
          refine wpAnyH_take (i := 14) (v := ?vb14) rfl (by kernel_rfl) (by kernel_rfl) (by kernel_rfl) (fun _ _ _ h => h) (Or.inl ⟨by rfl, ?yb14⟩) (by assumption) ?rb14
          case yb14 => (intro w hSw; (try dsimp only at hSw); (try simp only [zq1, zq2, zq3]); go_simp; try with_reducible rfl)
          case rb14 =>
          try simp only [Act.put, zq4, zq5, zq6, zq1, zq2, zq3]
          refine wpAnyH_ready (rs := [15]) (by kernel_rfl) (by simp) ?_
          refine AllReadyH.cons rfl (fun K hK => ?_) AllReadyH.nil
          go_simp
          refine hK.out _ _ ?_ (fun hHeld9 => wpAnyH_done (by kernel_rfl) ?_ _)
          · exact ⟨(World.cell?_setCell_other _ _ _ _ (fun e => by injection e with _ e _; omega)).trans cc', (World.cell?_setCell_other _ _ _ _ (fun e => by injection e with _ e _; omega)).trans cd'⟩
          clear hK K hHeld hHeld9
          have hW2' := W2.set m (IntKind.u32.wrap (IntKind.u32.wrap (IntKind.u32.wrap (c + sig0 a) + d) + sig1 b))
          have hT1 : Turn (fun q => q = w.heap.size + 1) w5 (w5.setCell ⟨w.heap.size + 1, m, none⟩ (.int .u32 (IntKind.u32.wrap (IntKind.u32.wrap (IntKind.u32.wrap (c + sig0 a) + d) + sig1 b)))) := (Turn.refl (fun q => q = w.heap.size + 1) w5).setCell (p := ⟨w.heap.size + 1, m, none⟩) (fun _ => rfl) _
          have hW1' := W1.turn hT1 (by omega)
          have hT' := T5.trans hT1 (fun q hq h => by omega)
          change Exit.inBlock _ _ _ _ (World.drew (w5.setCell ⟨w.heap.size + 1, m, none⟩ (.int .u32 (IntKind.u32.wrap (IntKind.u32.wrap (IntKind.u32.wrap (c + sig0 a) + d) + sig1 b)))))
          generalize w5.setCell ⟨w.heap.size + 1, m, none⟩ (.int .u32 (IntKind.u32.wrap (IntKind.u32.wrap (IntKind.u32.wrap (c + sig0 a) + d) + sig1 b))) = w9 at hW2' hT1 hW1' hT' ⊢
          clear hT1 W1 W2 T5 cc' cd' cw' fw' f16 f7 g16 g7 gm i16 i7 n16 n7
          go_wp2
          go_roundw
          case rel =>
            refine ⟨n + 1, ws.set m (IntKind.u32.wrap (IntKind.u32.wrap (IntKind.u32.wrap (c + sig0 a) + d) + sig1 b)), by omega, ?_, by simpa using HW.out, ?_, hW2', hW1', hT'.drew⟩
            · have := HM.out; go_num
            · rw [sched, HN.out, ← HS.out, ← HM.out, ← Nat.add_assoc]; exact set_take (by rw [HW.out]; omega)
          case measure => have := HM.out; simp [intOf]; omega
        · obtain rfl : n = 48 := by omega
          have hfull : ws = sched ps 48 := by rw [← hws]; exact (List.take_of_length_le (by omega)).symm
          have hi52 : (Tryz.prog.info? 138).map (·.size) = some (ws.map (Value.int .u32)).toArray.size := by
            have : (ws.map (Value.int .u32)).toArray.size = 64 := by simp [hwl]
            rw [this]; exact size52
          have hth : wr.there w.heap.size 0 (ws.map (Value.int .u32)).toArray.size := by
            have : (ws.map (Value.int .u32)).toArray.size = 64 := by simp [hwl]
            rw [this]
            intro j hj
            rw [Nat.zero_add]
            exact ⟨by rw [hW1.cell j (by simpa using hj)]; rfl, hW1.open_ j⟩
          have h1c : (ws.map (Value.int .u32)).toArray.all (·.oneCell') = true := all_oneCell_toArray (ints_oneCell _ _)
          have HF := Lib.hid hfull
          have HWL := Lib.hid hwl
          clear hfull hws hwl
          go_wp2_with (first | (refine wpList_load_row rfl 138 _ rfl (w.heap.size + 1) rfl 138 _ (0, 0) _ hW2 Tryz.underlying138 rfl hi52 ?_) | (with_reducible refine wpList_store_mid rfl 138 _ _ rfl w.heap.size 0 _ rfl rfl hth hi52 h1c ?_))
          have hrg := World.rangeAt_setCells_same wr w.heap.size 0 (ws.map (Value.int .u32)) (by simpa using hth)
          refine bodyPost_ret (v := .agg (ws.map (Value.int .u32)).toArray) (results_cell_mid Tryz.results81 _ _ w.heap.size _ _ rfl hrg Tryz.underlying138 rfl (by simpa using hi52)) rfl ⟨by rw [HF.out], ?_⟩
          refine hT.trans (T := fun q => q = w.heap.size) (turn_setCells _ _ _ _) (fun q hq h => by omega)
end Go.Proofs.YtboofamenpcnhaaGreatDoor
namespace Go.Proofs.YtboofamenpcnhaaGreatDoor
set_option maxRecDepth 100000
open Go.RowKit
set_option linter.unusedVariables false
set_option linter.unusedSimpArgs false
/-- The eight words of a sum. -/
structure Eight where
  a : Int
  b : Int
  c : Int
  d : Int
  e : Int
  f : Int
  g : Int
  h : Int
def S1 (e : Int) : Int := bits .xor .u32 (bits .xor .u32 (rotr 6 e) (rotr 11 e)) (rotr 25 e)
def S0 (a : Int) : Int := bits .xor .u32 (bits .xor .u32 (rotr 2 a) (rotr 13 a)) (rotr 22 a)
def ch (e f g : Int) : Int := bits .xor .u32 (bits .and .u32 e f) (bits .and .u32 (bits .xor .u32 IntKind.u32.max e) g)
def maj (a b c : Int) : Int := bits .xor .u32 (bits .xor .u32 (bits .and .u32 a b) (bits .and .u32 a c)) (bits .and .u32 b c)
def tt (e f g h y x : Int) : Int := (h + S1 e + ch e f g + y + x) % 4294967296
def uu (a b c : Int) : Int := (S0 a + maj a b c) % 4294967296
/-- One round. -/
def rnd (s : Eight) (y x : Int) : Eight :=
  ⟨(tt s.e s.f s.g s.h y x + uu s.a s.b s.c) % 4294967296, s.a, s.b, s.c, (s.d + tt s.e s.f s.g s.h y x) % 4294967296, s.e, s.f, s.g⟩
/-- The first k rounds. -/
def rnds (ks ws : List Int) (s : Eight) : Nat → Eight
  | 0 => s
  | k + 1 => rnd (rnds ks ws s k) (ks.getD k 0) (ws.getD k 0)
theorem Turn.drewN {S : Nat → Prop} {w w' : World} (h : Turn S w w') (k : Nat) : Turn S w (w'.drewN k) := ⟨h.os, h.tape, h.output, h.size, h.block⟩
theorem size41 : (Tryz.prog.info? 114).map (·.size) = some 8 := by kernel_rfl
def add32 (a b : Int) : Int := (a + b) % 4294967296
def addE (s t : Eight) : List Value :=
  [.int .u32 (add32 s.a t.a), .int .u32 (add32 s.b t.b), .int .u32 (add32 s.c t.c), .int .u32 (add32 s.d t.d), .int .u32 (add32 s.e t.e), .int .u32 (add32 s.f t.f), .int .u32 (add32 s.g t.g), .int .u32 (add32 s.h t.h)]
def StirPost (w : World) (s t : Eight) (e : Ending) (w' : World) : Prop := e = .returned (.agg (addE s t).toArray) ∧ Turn (fun _ => False) w w'
theorem stir_start (w W : World) (ss zs : List Value) (ws : List Int) (h : ((w.alloc (.cells ss.toArray 114)).alloc (.cells (ws.map (Value.int .u32)).toArray 138)).alloc (.cells zs.toArray 114) = W) :
    W.heap[w.heap.size]? = some (.cells ss.toArray 114 (0, 0)) ∧ Words W (w.heap.size + 1) 138 ws ∧ W.heap[w.heap.size + 1 + 1]? = some (.cells zs.toArray 114 (0, 0)) ∧ Turn (fun _ => False) w W := by
  subst h
  refine ⟨?_, ?_, ?_, (((Turn.refl _ w).alloc _).alloc _).alloc _⟩
  · rw [Below.heap_alloc _ _ _ (by simp; omega), heap_alloc2_old]
  · show (World.alloc _ _).heap[_]? = _
    rw [Below.heap_alloc _ _ _ (by simp), heap_alloc2_new]
  · have := heap_alloc_new ((w.alloc (.cells ss.toArray 114)).alloc (.cells (ws.map (Value.int .u32)).toArray 138)) (.cells zs.toArray 114)
    simpa using this
set_option maxHeartbeats 1000000 in
set_option maxRecDepth 100000 in
theorem stir_try (W : Array Value) (s0 s1 s2 s3 s4 s5 s6 s7 : Int) (ws ks : List Int) (w : World) (hW : W = (ws.map (Value.int .u32)).toArray) (hl : ws.length = 64) (hk : ks.length = 64) (hr : ∀ i, i < 64 → w.cell? ⟨2, i, none⟩ = some (.int .u32 (ks.getD i 0))) (h1 : 2 < w.heap.size) :
    Calls Tryz.prog 80 #[.agg #[.int .u32 s0, .int .u32 s1, .int .u32 s2, .int .u32 s3, .int .u32 s4, .int .u32 s5, .int .u32 s6, .int .u32 s7], .agg W] w (StirPost w ⟨s0, s1, s2, s3, s4, s5, s6, s7⟩ (rnds ks ws ⟨s0, s1, s2, s3, s4, s5, s6, s7⟩ 64)) := by
  subst hW
  have HR := Lib.hid hr
  clear hr
  go_enter Tryz.func80, Tryz.ntmps80
  go_wp2_with fail
  generalize hW : World.alloc (World.alloc (World.alloc w _) _) _ = W
  obtain ⟨q1, q2, q3, q4⟩ := stir_start w W [.int .u32 s0, .int .u32 s1, .int .u32 s2, .int .u32 s3, .int .u32 s4, .int .u32 s5, .int .u32 s6, .int .u32 s7] [.int .u32 0, .int .u32 0, .int .u32 0, .int .u32 0, .int .u32 0, .int .u32 0, .int .u32 0, .int .u32 0] ws hW
  clear hW
  have c0 : W.cell? ⟨w.heap.size, 0, none⟩ = some (.int .u32 s0) := cell_of_row W _ 0 _ 114 _ q1
  have c1 : W.cell? ⟨w.heap.size, 1, none⟩ = some (.int .u32 s1) := cell_of_row W _ 1 _ 114 _ q1
  have c2 : W.cell? ⟨w.heap.size, 2, none⟩ = some (.int .u32 s2) := cell_of_row W _ 2 _ 114 _ q1
  have c3 : W.cell? ⟨w.heap.size, 3, none⟩ = some (.int .u32 s3) := cell_of_row W _ 3 _ 114 _ q1
  have c4 : W.cell? ⟨w.heap.size, 4, none⟩ = some (.int .u32 s4) := cell_of_row W _ 4 _ 114 _ q1
  have c5 : W.cell? ⟨w.heap.size, 5, none⟩ = some (.int .u32 s5) := cell_of_row W _ 5 _ 114 _ q1
  have c6 : W.cell? ⟨w.heap.size, 6, none⟩ = some (.int .u32 s6) := cell_of_row W _ 6 _ 114 _ q1
  have c7 : W.cell? ⟨w.heap.size, 7, none⟩ = some (.int .u32 s7) := cell_of_row W _ 7 _ 114 _ q1
  go_quiet (fail)
  go_wp2_with fail
  go_loopw [5, 6, 7, 8, 9, 10, 11, 12, 34] (fun va vb vc vd ve vf vg vh i wr => ∃ (k : Nat) (a b c d e f g h : Int), rnds ks ws ⟨s0, s1, s2, s3, s4, s5, s6, s7⟩ k = ⟨a, b, c, d, e, f, g, h⟩ ∧ k ≤ 64 ∧ i = .int .i64 (k : Int) ∧ va = .int .u32 a ∧ vb = .int .u32 b ∧ vc = .int .u32 c ∧ vd = .int .u32 d ∧ ve = .int .u32 e ∧ vf = .int .u32 f ∧ vg = .int .u32 g ∧ vh = .int .u32 h ∧ wr.heap = W.heap ∧ Turn (fun _ => False) w wr) (fun _ _ _ _ _ _ _ _ i _ => 64 - (intOf i).toNat)
  case atStart => exact ⟨0, s0, s1, s2, s3, s4, s5, s6, s7, rfl, Nat.zero_le _, rfl, rfl, rfl, rfl, rfl, rfl, rfl, rfl, rfl, rfl, q4.drewN _⟩
  case round =>
    obtain ⟨k, a, b, c, d, e, f, g, z, hrn, hk', rfl, rfl, rfl, rfl, rfl, rfl, rfl, rfl, rfl, hheap, hT⟩ := hrel
    have Q2 : Words wr (w.heap.size + 1) 138 ws := by unfold Words; rw [hheap]; exact q2
    have HH := Lib.hid hheap
    have HRN := Lib.hid hrn
    clear hrn
    clear hheap
    by_cases hlt : k < 64
    · have cw := Q2.cell k (by omega)
      have cr := (hT.cell (p := ⟨2, k, none⟩) h1 id).trans (HR.out k hlt)
      obtain ⟨x, ex⟩ : ∃ x, ws.getD k 0 = x := ⟨_, rfl⟩
      obtain ⟨y, ey⟩ : ∃ y, ks.getD k 0 = y := ⟨_, rfl⟩
      rw [ex] at cw
      rw [ey] at cr
      have EX := Lib.hid ex
      have EY := Lib.hid ey
      have gm : 0 ≤ (k : Int) ∧ (k : Int) < 64 := by omega
      clear ex ey c0 c1 c2 c3 c4 c5 c6 c7
      go_wp2_with fail
      go_quiet (first | (go_at_call_of 103 (Value.int IntKind.i64 6); exact Calls.quiet_of_same ((turn_at _ 6 rfl e (by omega) (by omega) _).mono fun _ _ ⟨h, k⟩ => ⟨h, k.symm⟩)) | (go_at_call_of 103 (Value.int IntKind.i64 11); exact Calls.quiet_of_same ((turn_at _ 11 rfl e (by omega) (by omega) _).mono fun _ _ ⟨h, k⟩ => ⟨h, k.symm⟩)) | (go_at_call_of 103 (Value.int IntKind.i64 25); exact Calls.quiet_of_same ((turn_at _ 25 rfl e (by omega) (by omega) _).mono fun _ _ ⟨h, k⟩ => ⟨h, k.symm⟩)))
      have ht : ((z + bits .xor .u32 (bits .xor .u32 (rotr 6 e) (rotr 11 e)) (rotr 25 e) + bits .xor .u32 (bits .and .u32 e f) (bits .and .u32 (bits .xor .u32 IntKind.u32.max e) g) + y) % 4294967296 + x) % 4294967296 = tt e f g z y x := by
        unfold tt S1 ch; omega
      simp only [ht]
      have hT2 : Turn (fun _ => False) w (wr.drewN nq) := hT.drewN nq
      have HH2 : Hid ((wr.drewN nq).heap = W.heap) := HH.out
      generalize wr.drewN nq = w5 at hT2 HH2 ⊢
      generalize htt : tt e f g z y x = t
      have HTT := Lib.hid htt
      clear ht htt cw cr hT HH Q2
      go_wp2_with fail
      refine (turn_at _ 2 rfl a (by omega) (by omega) _).mono ?_
      rintro r w' ⟨rfl, rfl⟩
      go_wp2_with fail
      refine (turn_at _ 13 rfl a (by omega) (by omega) _).mono ?_
      rintro r w' ⟨rfl, rfl⟩
      go_wp2_with fail
      refine (turn_at _ 22 rfl a (by omega) (by omega) _).mono ?_
      rintro r w' ⟨rfl, rfl⟩
      go_wp2_with fail
      go_roundw
      case rel =>
        refine ⟨k + 1, (t + uu a b c) % 4294967296, a, b, c, (d + t) % 4294967296, e, f, g, ?_, by omega, by go_num, rfl, rfl, rfl, rfl, rfl, rfl, rfl, rfl, HH2.out, hT2⟩
        rw [rnds, HRN.out, EX.out, EY.out, rnd]
        simp only [HTT.out]
      case measure => simp [intOf]; omega
    · have hk64 : k = 64 := by omega
      have hfin := HRN.out
      rw [hk64] at hfin
      have HF := Lib.hid hfin
      have c0' : wr.cell? ⟨w.heap.size, 0, none⟩ = some (.int .u32 s0) := (World.cell?_of_block (w := W) (by rw [HH.out])).trans c0
      have c1' : wr.cell? ⟨w.heap.size, 1, none⟩ = some (.int .u32 s1) := (World.cell?_of_block (w := W) (by rw [HH.out])).trans c1
      have c2' : wr.cell? ⟨w.heap.size, 2, none⟩ = some (.int .u32 s2) := (World.cell?_of_block (w := W) (by rw [HH.out])).trans c2
      have c3' : wr.cell? ⟨w.heap.size, 3, none⟩ = some (.int .u32 s3) := (World.cell?_of_block (w := W) (by rw [HH.out])).trans c3
      have c4' : wr.cell? ⟨w.heap.size, 4, none⟩ = some (.int .u32 s4) := (World.cell?_of_block (w := W) (by rw [HH.out])).trans c4
      have c5' : wr.cell? ⟨w.heap.size, 5, none⟩ = some (.int .u32 s5) := (World.cell?_of_block (w := W) (by rw [HH.out])).trans c5
      have c6' : wr.cell? ⟨w.heap.size, 6, none⟩ = some (.int .u32 s6) := (World.cell?_of_block (w := W) (by rw [HH.out])).trans c6
      have c7' : wr.cell? ⟨w.heap.size, 7, none⟩ = some (.int .u32 s7) := (World.cell?_of_block (w := W) (by rw [HH.out])).trans c7
      have hth : wr.there (w.heap.size + 1 + 1) 0 8 := by
        intro j hj
        have hb : wr.heap[w.heap.size + 1 + 1]? = some (.cells [.int .u32 0, .int .u32 0, .int .u32 0, .int .u32 0, .int .u32 0, .int .u32 0, .int .u32 0, .int .u32 0].toArray 114 (0, 0)) := by rw [HH.out]; exact q3
        refine ⟨?_, frozen_of_row wr _ _ _ 114 hb⟩
        rw [cell_of_row wr _ _ _ 114 (0, 0) hb]
        simp; omega
      have hb : wr.heap[w.heap.size + 1 + 1]? = some (.cells [.int .u32 0, .int .u32 0, .int .u32 0, .int .u32 0, .int .u32 0, .int .u32 0, .int .u32 0, .int .u32 0].toArray 114 (0, 0)) := by rw [HH.out]; exact q3
      have z0 : wr.cell? ⟨w.heap.size + 1 + 1, 0, none⟩ = some (.int .u32 0) := cell_of_row wr _ 0 _ 114 _ hb
      have y0 : wr.frozen? ⟨w.heap.size + 1 + 1, 0, none⟩ = false := frozen_of_row wr _ 0 _ 114 hb
      have z1 : wr.cell? ⟨w.heap.size + 1 + 1, 1, none⟩ = some (.int .u32 0) := cell_of_row wr _ 1 _ 114 _ hb
      have y1 : wr.frozen? ⟨w.heap.size + 1 + 1, 1, none⟩ = false := frozen_of_row wr _ 1 _ 114 hb
      have z2 : wr.cell? ⟨w.heap.size + 1 + 1, 2, none⟩ = some (.int .u32 0) := cell_of_row wr _ 2 _ 114 _ hb
      have y2 : wr.frozen? ⟨w.heap.size + 1 + 1, 2, none⟩ = false := frozen_of_row wr _ 2 _ 114 hb
      have z3 : wr.cell? ⟨w.heap.size + 1 + 1, 3, none⟩ = some (.int .u32 0) := cell_of_row wr _ 3 _ 114 _ hb
      have y3 : wr.frozen? ⟨w.heap.size + 1 + 1, 3, none⟩ = false := frozen_of_row wr _ 3 _ 114 hb
      have z4 : wr.cell? ⟨w.heap.size + 1 + 1, 4, none⟩ = some (.int .u32 0) := cell_of_row wr _ 4 _ 114 _ hb
      have y4 : wr.frozen? ⟨w.heap.size + 1 + 1, 4, none⟩ = false := frozen_of_row wr _ 4 _ 114 hb
      have z5 : wr.cell? ⟨w.heap.size + 1 + 1, 5, none⟩ = some (.int .u32 0) := cell_of_row wr _ 5 _ 114 _ hb
      have y5 : wr.frozen? ⟨w.heap.size + 1 + 1, 5, none⟩ = false := frozen_of_row wr _ 5 _ 114 hb
      have z6 : wr.cell? ⟨w.heap.size + 1 + 1, 6, none⟩ = some (.int .u32 0) := cell_of_row wr _ 6 _ 114 _ hb
      have y6 : wr.frozen? ⟨w.heap.size + 1 + 1, 6, none⟩ = false := frozen_of_row wr _ 6 _ 114 hb
      have z7 : wr.cell? ⟨w.heap.size + 1 + 1, 7, none⟩ = some (.int .u32 0) := cell_of_row wr _ 7 _ 114 _ hb
      have y7 : wr.frozen? ⟨w.heap.size + 1 + 1, 7, none⟩ = false := frozen_of_row wr _ 7 _ 114 hb
      clear c0 c1 c2 c3 c4 c5 c6 c7 hfin hk64 q1 q2 q3 q4 Q2 hb
      go_wp2
      have hrg := World.rangeAt_setCells_same wr (w.heap.size + 1 + 1) 0 (addE ⟨s0, s1, s2, s3, s4, s5, s6, s7⟩ ⟨a, b, c, d, e, f, g, z⟩) (by simpa [addE] using hth)
      change bodyPost _ _ _ _ _ (wr.setCells (w.heap.size + 1 + 1) 0 (addE ⟨s0, s1, s2, s3, s4, s5, s6, s7⟩ ⟨a, b, c, d, e, f, g, z⟩))
      refine bodyPost_ret (v := .agg (addE ⟨s0, s1, s2, s3, s4, s5, s6, s7⟩ ⟨a, b, c, d, e, f, g, z⟩).toArray) (results_cell_mid Tryz.results80 _ _ (w.heap.size + 1 + 1) _ _ rfl hrg Tryz.underlying114 rfl size41) rfl ⟨by rw [HF.out], ?_⟩
      exact hT.trans (T := fun q => q = w.heap.size + 1 + 1) (turn_setCells _ _ _ _) (fun q hq h => by omega)
end Go.Proofs.YtboofamenpcnhaaGreatDoor
namespace Go.Proofs.YtboofamenpcnhaaGreatDoor
set_option maxRecDepth 100000
open Go.RowKit
set_option linter.unusedVariables false
set_option maxHeartbeats 800000 in
set_option maxRecDepth 100000 in
theorem clone_any (v : Value) (xs : List Int) (w : World) (hl : xs.length ≤ 70000000000000) (hr : Src w v xs) :
    Calls Tryz.prog 82 #[v] w (NewBytes w xs) := by
  obtain ⟨i0, hi, hz0, hz1, hz2⟩ := info_parts Tryz.info5
  rcases src_form hr with ⟨rfl, rfl⟩ | ⟨x, cap, rfl⟩
  · have hnil : ∀ w, (binOp .eql 29 (.slice none 0 0) (.slice none 0 0)).run Tryz.prog w = .ok (.bool true) w := fun w => Lib.run_eql_slice_nil (P := Tryz.prog) w 29 5 none 0 0 0 0 Tryz.underlying29
    go_enter Tryz.func82, Tryz.ntmps82
    go_wp2
    go_ret
    exact ⟨_, rfl, World.ownsRow_nil _ _ _ _, Turn.refl _ _⟩
  · have hnil : ∀ w, (binOp .eql 29 (.slice (some x) xs.length cap) (.slice none 0 0)).run Tryz.prog w = .ok (.bool false) w := fun w => Lib.run_eql_slice_nil (P := Tryz.prog) w 29 5 _ _ _ 0 0 Tryz.underlying29
    have HN := Lib.hid (src_cells hr (.cells #[] 5))
    clear hr
    go_enter Tryz.func82, Tryz.ntmps82
    have ho := World.ownsRow_lit (base := w.heap.size) (e := 5) (size := 1) w #[] 0 (Nat.le_refl _) (by unfold maxLen; omega) (by simp)
    go_wp2_with (at_builtin; refine wpList_append_where _ rfl (.tmp 5) (.tmp 6) 29 rfl w.heap.size 5 i0 (.int .u8 0) 1 1 Tryz.underlying29 hi hz0 hz1 hz2 rfl (by decide) _ 0 [] rfl ho x xs.length cap (xs.map (Value.int .u8)) rfl (by simp) HN.out (ints_oneCell _ _) ?c3 ?c4 ?c5 ?_)
    case c3 => unfold maxLen; omega
    case c4 => omega
    intro v' w1 hown hgrow hfresh _
    have hT : Turn (fun _ => False) w w1 := ((Turn.refl (fun _ => False) w).alloc (.cells #[] 5)).grown hgrow (fun k h hk => by simp [Value.ownBlock] at h; omega)
    clear hgrow hfresh ho
    go_wp2
    go_ret
    exact ⟨_, rfl, by simpa using hown, hT⟩
end Go.Proofs.YtboofamenpcnhaaGreatDoor
