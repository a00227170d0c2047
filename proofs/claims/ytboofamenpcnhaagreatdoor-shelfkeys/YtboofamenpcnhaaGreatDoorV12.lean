/- Own texts, packed: Q22. -/
import Derived.Test.YtboofamenpcnhaaGreatDoorV07
import Derived.Test.YtboofamenpcnhaaGreatDoorV11
namespace Go.Proofs.YtboofamenpcnhaaGreatDoor
set_option maxRecDepth 100000
open Go.RowKit
set_option linter.unusedVariables false
set_option linter.unusedSimpArgs false
theorem Tryz.info65 : (Tryz.prog.info? 65).map (fun i => (i.zero, i.size, i.bytes)) = some (some (.int .u32 0), 1, 4) := by kernel_rfl
theorem run_index_row {P : Program} (t e : TypeId) (n : Nat) (cs : List Value) (k : Nat) (v : Value) (w : World) (i0 : TypeInfo) (K : IntKind) (ht : P.underlying t = some (.array n e)) (he : P.underlying e = some (.int K)) (hi : P.info? e = some i0) (h1 : i0.size = 1) (hk : k < n) (hv : cs[k]? = some v) :
    (Instr.index t (.agg cs.toArray) (.int .i64 (k : Int))).run P w = .ok v w := by
  have hc : (0 : Int) ≤ (k : Int) ∧ (k : Int) < (n : Int) := by omega
  have hagg : (isAgg e).run P w = .ok false w := by
    unfold isAgg
    rw [Sem.run_bind, run_underlying he w]; rfl
  simp [Instr.index, asIntOf, Sem.run_bind, run_underlying ht, hk, sizeOf, typeInfo, hi, h1, part, hagg, hv]
/-- Word i of a sum. -/
def Eight.get (s : Eight) (i : Nat) : Int := [s.a, s.b, s.c, s.d, s.e, s.f, s.g, s.h].getD i 0
theorem vals_get (s : Eight) (i : Nat) (h : i < 8) : s.vals[i]? = some (.int .u32 (s.get i)) := by
  match i, h with
  | 0, _ => rfl
  | 1, _ => rfl
  | 2, _ => rfl
  | 3, _ => rfl
  | 4, _ => rfl
  | 5, _ => rfl
  | 6, _ => rfl
  | 7, _ => rfl
/-- The four bytes of a word, the highest first. -/
def four (x : Int) : List Int := [x / 16777216 % 256, x / 65536 % 256, x / 256 % 256, x % 256]
/-- The bytes of the first i words. -/
def keyB (s : Eight) : Nat → List Int
  | 0 => []
  | i + 1 => keyB s i ++ four (s.get i)
theorem keyB_len (s : Eight) (i : Nat) : (keyB s i).length = 4 * i := by
  induction i with
  | zero => rfl
  | succ i ih => simp [keyB, ih, four]; omega
theorem BytesAt.there {w : World} {B : Nat} {t : TypeId} {ws : List Int} (h : BytesAt w B t ws) : w.there B 0 ws.length := fun j hj => by
  rw [Nat.zero_add]; exact ⟨by rw [h.cell j hj]; rfl, h.open_ j⟩
theorem key_start (w W : World) (s : Eight) (h : ((w.alloc (.cells s.vals.toArray 114)).alloc (.cells ((List.replicate 32 (0 : Int)).map (Value.int .u8)).toArray 32)).alloc (.cells ((List.replicate 32 (0 : Int)).map (Value.int .u8)).toArray 32) = W) :
    W.rangeAt w.heap.size 0 s.vals ∧ BytesAt W (w.heap.size + 1) 32 (List.replicate 32 0) ∧ BytesAt W (w.heap.size + 1 + 1) 32 (List.replicate 32 0) ∧ Turn (fun _ => False) w W := by
  subst h
  refine ⟨fun j v hv => ?_, ?_, ?_, (((Turn.refl _ w).alloc _).alloc _).alloc _⟩
  · have h1 : (((w.alloc (.cells s.vals.toArray 114)).alloc (.cells ((List.replicate 32 (0 : Int)).map (Value.int .u8)).toArray 32)).alloc (.cells ((List.replicate 32 (0 : Int)).map (Value.int .u8)).toArray 32)).heap[w.heap.size]? = some (.cells s.vals.toArray 114) := by
      rw [Below.heap_alloc _ _ _ (by simp; omega), heap_alloc2_old]
    rw [Nat.zero_add, cell_of_row _ _ _ _ 114 (0, 0) h1]; simpa using hv
  · show (World.alloc _ _).heap[_]? = _
    rw [Below.heap_alloc _ _ _ (by simp), heap_alloc2_new]
  · have := heap_alloc_new ((w.alloc (.cells s.vals.toArray 114)).alloc (.cells ((List.replicate 32 (0 : Int)).map (Value.int .u8)).toArray 32)) (.cells ((List.replicate 32 (0 : Int)).map (Value.int .u8)).toArray 32)
    unfold BytesAt
    simpa using this
theorem turn_four {S : Nat → Prop} {a w : World} (h : Turn S a w) (B : Nat) (hp : B < a.heap.size → S B) (i j k l : Nat) (t u v x : Value) :
    Turn S a ((((w.setCell ⟨B, i, none⟩ t).setCell ⟨B, j, none⟩ u).setCell ⟨B, k, none⟩ v).setCell ⟨B, l, none⟩ x) :=
  Turn.setCell (Turn.setCell (Turn.setCell (Turn.setCell h (p := ⟨B, i, none⟩) hp t) (p := ⟨B, j, none⟩) hp u) (p := ⟨B, k, none⟩) hp v) (p := ⟨B, l, none⟩) hp x
theorem key_step (s : Eight) (k : Nat) (h : k < 8) : keyB s (k + 1) ++ List.replicate (32 - 4 * (k + 1)) 0 = (((((keyB s k ++ List.replicate (32 - 4 * k) 0).set (4 * k) (s.get k / 16777216 % 256)).set (4 * k + 1) (s.get k / 65536 % 256)).set (4 * k + 2) (s.get k / 256 % 256)).set (4 * k + 3) (s.get k % 256)) := by
  have hl := keyB_len s k
  have e1 : List.replicate (32 - 4 * k) (0 : Int) = 0 :: 0 :: 0 :: 0 :: List.replicate (32 - 4 * (k + 1)) 0 := by
    rw [show 32 - 4 * k = (32 - 4 * (k + 1)) + 1 + 1 + 1 + 1 by omega]; simp [List.replicate_succ]
  generalize List.replicate (32 - 4 * (k + 1)) (0 : Int) = z at e1 ⊢
  rw [e1, keyB]
  generalize keyB s k = p at hl
  generalize s.get k = x
  rw [set_at p _ _ _ (4 * k) hl]
  rw [show p ++ x / 16777216 % 256 :: 0 :: 0 :: 0 :: z = (p ++ [x / 16777216 % 256]) ++ 0 :: 0 :: 0 :: z by simp, set_at _ _ _ _ (4 * k + 1) (by simp [hl])]
  rw [show p ++ [x / 16777216 % 256] ++ x / 65536 % 256 :: 0 :: 0 :: z = (p ++ [x / 16777216 % 256, x / 65536 % 256]) ++ 0 :: 0 :: z by simp, set_at _ _ _ _ (4 * k + 2) (by simp [hl])]
  rw [show p ++ [x / 16777216 % 256, x / 65536 % 256] ++ x / 256 % 256 :: 0 :: z = (p ++ [x / 16777216 % 256, x / 65536 % 256, x / 256 % 256]) ++ 0 :: z by simp, set_at _ _ _ _ (4 * k + 3) (by simp [hl])]
  simp [four]
theorem size25 : (Tryz.prog.info? 32).map (·.size) = some 32 := by kernel_rfl
def KeyPost (w : World) (ks : List Int) (e : Ending) (w' : World) : Prop := e = .returned (.agg (ks.map (Value.int .u8)).toArray) ∧ Turn (fun _ => False) w w'
set_option maxHeartbeats 1000000 in
set_option maxRecDepth 100000 in
theorem key_any (s : Eight) (w : World) : Calls Tryz.prog 60 #[.agg s.vals.toArray] w (KeyPost w (keyB s 8)) := by
  obtain ⟨i0, hi, hz0, hz1, hz2⟩ := info_parts Tryz.info65
  go_enter Tryz.func60, Tryz.ntmps60
  go_wp2_with (refine wpList_load_mid (op := ⟨some 6, .load 114 (.tmp 1), _, _, _, _⟩) rfl 114 (.tmp 1) rfl w.heap.size 0 rfl s.vals _ (key_start w _ s rfl).1 Tryz.underlying114 rfl size41 ?_)
  generalize hW : World.alloc (World.alloc (World.alloc w _) _) _ = W
  obtain ⟨q1, q2, q3, q4⟩ := key_start w W s hW
  clear hW q1
  go_loopw [7] (fun iv wr => ∃ (k : Nat), k ≤ 8 ∧ iv = .int .i64 (k : Int) ∧ BytesAt wr (w.heap.size + 1 + 1) 32 (keyB s k ++ List.replicate (32 - 4 * k) 0) ∧ BytesAt wr (w.heap.size + 1) 32 (List.replicate 32 0) ∧ Turn (fun _ => False) w wr) (fun iv _ => (8 - intOf iv).toNat)
  case atStart => exact ⟨0, by omega, rfl, q3, q2, q4⟩
  case round =>
    clear q2 q3 q4
    obtain ⟨k, hk, rfl, hB, hB1, hT⟩ := hrel
    by_cases hlt : k < 8
    · have hidx : ∀ w, (Instr.index 114 (.agg s.vals.toArray) (.int .i64 (k : Int))).run Tryz.prog w = .ok (.int .u32 (s.get k)) w := fun w => run_index_row 114 65 8 s.vals k _ w i0 .u32 Tryz.underlying114 Tryz.underlying65 hi hz1 hlt (vals_get s k hlt)
      have hd : decide ((k : Int) < 8) = true := by simp; omega
      obtain ⟨ws, hws⟩ : ∃ ws, keyB s k ++ List.replicate (32 - 4 * k) 0 = ws := ⟨_, rfl⟩
      have hwl : ws.length = 32 := by rw [← hws]; simp [keyB_len]; omega
      rw [hws] at hB
      have c0 := hB.cell (4 * k) (by omega)
      have c1 := hB.cell (4 * k + 1) (by omega)
      have c2 := hB.cell (4 * k + 2) (by omega)
      have c3 := hB.cell (4 * k + 3) (by omega)
      have f0 := hB.open_ (4 * k)
      have f1 := hB.open_ (4 * k + 1)
      have f2 := hB.open_ (4 * k + 2)
      have f3 := hB.open_ (4 * k + 3)
      have hB4 := (((hB.set (4 * k) (s.get k / 16777216 % 256)).set (4 * k + 1) (s.get k / 65536 % 256)).set (4 * k + 2) (s.get k / 256 % 256)).set (4 * k + 3) (s.get k % 256)
      have HB4 := Lib.hid hB4
      have HWS := Lib.hid hws
      have HWL := Lib.hid hwl
      clear hB hB4 hws hwl
      go_wp2_with fail
      refine ⟨⟨k + 1, by omega, by simp, ?_, ?_, ?_⟩, by simp [intOf]; omega⟩
      · have e1 : keyB s (k + 1) ++ List.replicate (32 - 4 * (k + 1)) 0 = ((((ws.set (4 * k) (s.get k / 16777216 % 256)).set (4 * k + 1) (s.get k / 65536 % 256)).set (4 * k + 2) (s.get k / 256 % 256)).set (4 * k + 3) (s.get k % 256)) := by
          rw [← HWS.out]; exact key_step s k hlt
        rw [e1]; exact HB4.out
      · exact hB1.turn (turn_four (S := fun q => q = w.heap.size + 1 + 1) (Turn.refl _ wr) (w.heap.size + 1 + 1) (fun _ => rfl) _ _ _ _ _ _ _ _) (by omega)
      · exact turn_four hT (w.heap.size + 1 + 1) (fun h => by omega) _ _ _ _ _ _ _ _
    · obtain rfl : k = 8 := by omega
      have hB' : BytesAt wr (w.heap.size + 1 + 1) 32 (keyB s 8) := by simpa using hB
      have hkl : (keyB s 8).length = 32 := keyB_len s 8
      obtain ⟨ks, hks⟩ : ∃ ks, keyB s 8 = ks := ⟨_, rfl⟩
      rw [hks] at hB' hkl ⊢
      have hi25 : (Tryz.prog.info? 32).map (·.size) = some (ks.map (Value.int .u8)).toArray.size := by rw [size25]; simp [hkl]
      have hth : wr.there (w.heap.size + 1) 0 (ks.map (Value.int .u8)).toArray.size := by
        have := hB1.there
        simpa [hkl] using this
      have h1c : (ks.map (Value.int .u8)).toArray.all (·.oneCell') = true := all_oneCell_toArray (ints_oneCell _ _)
      have HKS := Lib.hid hks
      have HKL := Lib.hid hkl
      have hW2 : wr.heap[w.heap.size + 1 + 1]? = some (.cells (ks.map (Value.int .u8)).toArray 32 (0, 0)) := hB'
      clear hB hB' hB1 hks hkl
      go_wp2_with (first | (refine wpList_load_row rfl 32 _ rfl (w.heap.size + 1 + 1) rfl 32 _ (0, 0) _ hW2 Tryz.underlying32 rfl hi25 ?_) | (with_reducible refine wpList_store_mid rfl 32 _ _ rfl (w.heap.size + 1) 0 _ rfl rfl hth hi25 h1c ?_))
      have hrg := World.rangeAt_setCells_same wr (w.heap.size + 1) 0 (ks.map (Value.int .u8)) (by simpa using hth)
      refine bodyPost_ret (v := .agg (ks.map (Value.int .u8)).toArray) (results_cell_mid Tryz.results60 _ _ (w.heap.size + 1) _ _ rfl hrg Tryz.underlying32 rfl (by simpa using hi25)) rfl ⟨by rw [HKS.out], ?_⟩
      exact hT.trans (T := fun q => q = w.heap.size + 1) (turn_setCells _ _ _ _) (fun q hq h => by omega)
end Go.Proofs.YtboofamenpcnhaaGreatDoor
