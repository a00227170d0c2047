/- Own: the walk of StampSizes. -/
import Derived.Test.YtimajdbgeibalaaDoorRefS
import Derived.Test.YtimajdbgeibalaaDoorAwake
import Derived.Test.YtimajdbgeibalaaDoorSame
namespace Go.Proofs.YtimajdbgeibalaaDoor
open Go.RowKit
set_option linter.unusedVariables false
set_option linter.unusedSimpArgs false

theorem made_bytes (n : Nat) : madeCells (Value.int .u8 0).cells n = Array.replicate n (.int .u8 0) := by
  apply Array.ext
  · simp [madeCells]
  · intro i h1 h2
    simp [madeCells, Value.cells, Nat.mod_one]
theorem run_make_bytes (l c : Nat) (hlc : l ≤ c) (hc : c ≤ 100000000000000) (w : World) :
    (Instr.makeSlice 22 (.int .i64 (l : Int)) (.int .i64 (c : Int))).run Tryd.prog w = .ok (.slice (some ⟨w.heap.size, 0, none⟩) l c) (w.alloc (.cells (Array.replicate c (.int .u8 0)) 5)) := by
  obtain ⟨i0, hi, hz0, hz1, hz2⟩ := info_parts Tryd.info5
  have h := run_make (P := Tryd.prog) w 22 5 i0 _ Tryd.underlying22 hi hz0 .i64 .i64 (l : Int) (c : Int) (by omega) (by omega) (by rw [hz2]; omega) (by omega)
  rw [h, hz1, Nat.mul_one, Int.toNat_natCast, Int.toNat_natCast, made_bytes]
theorem made_reads (w : World) (n : Nat) : Reads (w.alloc (.cells (Array.replicate n (.int .u8 0)) 5)) (.slice (some ⟨w.heap.size, 0, none⟩) n n) (List.replicate n 0) := by
  refine .inr ⟨w.heap.size, 0, n, by simp, by simp, fun i hi => ?_⟩
  have hi' : i < n := by simpa using hi
  rw [Nat.zero_add, cell_of_row _ _ _ _ 5 (0, 0) (heap_alloc_new w _)]
  simp [List.getD, hi']

set_option maxHeartbeats 2000000 in
set_option maxRecDepth 100000 in
theorem ssizes_walk (a : Int) (w : World) (ha : 0 ≤ a ∧ a < 256) (ht : Tables w) : Calls Tryd.prog 4 #[.int .u8 a] w fun e w' => e = .returned (.bool true) ∧ Turn (fun _ => False) w w' := by
  obtain ⟨n, rfl⟩ := Int.eq_ofNat_of_zero_le ha.1
  have hn : n < 256 := by omega
  have HT := Lib.hid ht
  have hmk := run_make_bytes n n (Nat.le_refl _) (by omega) w
  clear ht ha
  go_enter Tryd.func4, Tryd.ntmps4
  go_wp2_with fail
  have t1 : Turn (fun _ => False) w (w.alloc (.cells (Array.replicate n (.int .u8 0)) 5)) := (Turn.refl _ w).alloc _
  have hr1 := made_reads w n
  generalize w.alloc (.cells (Array.replicate n (.int .u8 0)) 5) = w1 at t1 hr1 ⊢
  have HR1 := Lib.hid hr1
  clear hmk hr1
  refine (awake_any _ (HT.out.turn t1)).mono ?_
  rintro e w2 ⟨rfl, t2⟩
  have T2 := t1.trans t2 (fun _ _ => id)
  have HR2 := Lib.hid (HR1.out.turn t2 (fun _ _ => id))
  clear t1 t2 HR1
  go_wp2_with fail
  refine (of_any _ (List.replicate n 0) rootsL firstE w2 HR2.out (by simp; omega) (HT.out.turn T2).1 (HT.out.turn T2).2).mono ?_
  rintro e w3 ⟨rfl, t3⟩
  have T3 := T2.trans t3 (fun _ _ => id)
  have HR3 := Lib.hid (HR2.out.turn t3 (fun _ _ => id))
  have hkl := keyB_len (shaE firstE rootsL (List.replicate n 0)) 8
  have hr := ref_some ⟨w.heap.size, 0, none⟩ n n (List.replicate n 0) w3 (by simp) (.inl (by simpa using HR3.out)) (fun x hx => by have := List.eq_of_mem_replicate hx; omega) (by omega)
  generalize keyB (shaE firstE rootsL (List.replicate n 0)) 8 = kb at hkl hr ⊢
  have HKL := Lib.hid hkl
  have HRR := Lib.hid hr
  clear hkl t3 T2 HR2 HR3 hr
  go_wp2_with fail
  refine HRR.out.mono ?_
  rintro e w4 ⟨rfl, t4⟩
  have T4 := T3.trans t4 (fun _ _ => id)
  have hsame : ∀ w, (binOp .eql 25 (.agg (kb.map (Value.int .u8)).toArray) (.agg (kb.map (Value.int .u8)).toArray)).run Tryd.prog w = .ok (.bool true) w := fun w => by
    have := run_same 25 32 Tryd.underlying25 kb kb HKL.out HKL.out w
    rw [this]; simp
  clear t4 T3
  go_wp2_with fail
  go_ret
  exact ⟨rfl, T4⟩
end Go.Proofs.YtimajdbgeibalaaDoor
