/- Own contracts: a new disk. No statement is proved here. -/
import Derived.Test.YtakmkkgpkbpbkaaFlush
namespace Go.Proofs.Ytakmkkgpkbpbkaa
open Go.RowKit
set_option linter.unusedVariables false
set_option linter.unusedSimpArgs false

theorem Try.info76 : (Try.prog.info? 76).map (fun i => (i.zero, i.size, i.bytes)) = some (some (.agg (secV noughts).toArray), 64, 64) := by kernel_rfl
def newM (n : Nat) : DiskM := ⟨List.replicate n noughts, [], 0, false, 0, false⟩
theorem noughts_ok : BytesOk noughts := fun x hx => by
  have := List.eq_of_mem_replicate hx; omega
theorem made53 (n : Nat) : ∀ j, j < n * 64 → (madeCells (Value.agg (secV noughts).toArray).cells (n * 64))[j]? = some (.int .u8 0) := fun j hj => by
  have e : (Value.agg (secV noughts).toArray).cells = Array.replicate 64 (.int .u8 0) := by kernel_rfl
  rw [e]
  have hs : j % 64 < 64 := Nat.mod_lt _ (by omega)
  simp [madeCells, hj]
  rw [getElem!_pos _ _ (by simpa using hs)]
  simp
theorem secV_noughts (j : Nat) (v : Value) (h : (secV noughts)[j]? = some v) : j < 64 ∧ v = .int .u8 0 := by
  have hj : j < (secV noughts).length := (List.getElem?_eq_some_iff.1 h).1
  rw [secV_len, noughts_len] at hj
  refine ⟨hj, ?_⟩
  have : (secV noughts)[j]? = some (.int .u8 0) := by unfold secV noughts; rw [List.map_replicate, List.getElem?_replicate, if_pos hj]
  rw [this] at h
  exact (Option.some.inj h).symm
/-- A row of sectors of noughts. -/
theorem safe_made (w : World) (n : Nat) : SafeAt (w.alloc (.cells (madeCells (Value.agg (secV noughts).toArray).cells (n * 64)) 76)) w.heap.size (List.replicate n noughts) := fun i s hs => by
  have hb := heap_alloc_new w (.cells (madeCells (Value.agg (secV noughts).toArray).cells (n * 64)) 76)
  have hi : i < n := by have := (List.getElem?_eq_some_iff.1 hs).1; simpa using this
  obtain rfl : noughts = s := by
    rw [List.getElem?_replicate, if_pos hi] at hs; exact Option.some.inj hs
  refine ⟨fun j v hv => ?_, fun j hj => ⟨?_, frozen_of_row _ _ _ _ 76 hb⟩⟩
  · obtain ⟨hj, rfl⟩ := secV_noughts j v hv
    rw [cell_of_row _ _ _ _ 76 (0, 0) hb, made53 n _ (by omega)]
  · rw [cell_of_row _ _ _ _ 76 (0, 0) hb, made53 n _ (by omega)]; rfl
theorem run_make46 (n : Nat) (hn : n ≤ 4096) (w : World) : (Instr.makeSlice 52 (.int .i64 (n : Int)) (.int .i64 (n : Int))).run Try.prog w = .ok (.slice (some ⟨w.heap.size, 0, none⟩) n n) (w.alloc (.cells (madeCells (Value.agg (secV noughts).toArray).cells (n * 64)) 76)) := by
  obtain ⟨i0, hi, hz0, hz1, hz2⟩ := info_parts Try.info76
  have h := run_make (P := Try.prog) w 52 76 i0 _ Try.underlying52 hi hz0 .i64 .i64 (n : Int) (n : Int) (by omega) (by omega) (by rw [hz2]; omega) (by omega)
  rw [h, hz1, Int.toNat_natCast]

def NewPost (w : World) (n : Nat) (e : Ending) (w' : World) : Prop :=
  ∃ F D S sc, e = .returned (.pointer (some ⟨D, 0, none⟩)) ∧ DiskIn w' F D S sc (.slice none 0 0) (newM n) ∧ (∀ k, F k → w.heap.size ≤ k) ∧ Turn (fun _ => False) w w'

theorem newPost_mk (w : World) (n : Nat) (hn : n ≤ 4096) (w2 : World) (h : (w.alloc (.cells (madeCells (Value.agg (secV noughts).toArray).cells (n * 64)) 76)).alloc (.cells #[.slice (some ⟨w.heap.size, 0, none⟩) n n, .slice none 0 0, .int .i64 0, .bool false, .int .i64 0, .bool false] 55) = w2) :
    NewPost w n (.returned (.pointer (some ⟨w.heap.size + 1, 0, none⟩))) w2 := by
  subst h
  have hsafe := safe_made w n
  have hlen : (w.alloc (.cells (madeCells (Value.agg (secV noughts).toArray).cells (n * 64)) 76)).heap.size = w.heap.size + 1 := by simp
  have T1 := (Turn.refl (fun _ => False) w).alloc (.cells (madeCells (Value.agg (secV noughts).toArray).cells (n * 64)) 76)
  generalize w.alloc (.cells (madeCells (Value.agg (secV noughts).toArray).cells (n * 64)) 76) = w1 at hsafe hlen T1
  have T2 := (Turn.refl (fun _ => False) w1).alloc (.cells #[.slice (some ⟨w.heap.size, 0, none⟩) n n, .slice none 0 0, .int .i64 0, .bool false, .int .i64 0, .bool false] 55)
  have hh := heap_alloc_new w1 (.cells #[.slice (some ⟨w.heap.size, 0, none⟩) n n, .slice none 0 0, .int .i64 0, .bool false, .int .i64 0, .bool false] 55)
  rw [hlen] at hh
  have hz := T2.size
  refine ⟨fun k => k = w.heap.size + 1 ∨ k = w.heap.size, w.heap.size + 1, w.heap.size, n, rfl, ?_, fun k hk => by omega, T1.trans T2 (fun _ _ => id)⟩
  refine { head := ?_, cap := by simp [newM], safe := hsafe.turn T2 id, slt := by omega, wet := World.ownsRow_nil _ _ _ _, fD := .inl rfl, fS := .inr rfl, fw := fun q hq => (by cases hq), nDS := by omega, nDw := fun e => (by cases e), nSw := fun e => (by cases e), ok := ⟨fun s hs => ?_, fun x hx => (by cases hx)⟩, few := by simpa [newM] using hn }
  · show _ = some (Obj.cells (HeadM.cells _) 55 (0, 0))
    rw [hh]
    simp [HeadM.cells, DiskM.head, newM]
  · have := List.eq_of_mem_replicate hs
    subst this
    exact ⟨noughts_len, noughts_ok⟩

set_option maxHeartbeats 1600000 in
set_option maxRecDepth 100000 in
theorem new_any (n : Nat) (w : World) (i : Int) (hi : min (max i 0) 4096 = (n : Int)) : Calls Try.prog 9 #[.int .i64 i] w (NewPost w n) := by
  have hn : n ≤ 4096 := by omega
  have hmk := run_make46 n hn w
  by_cases h1 : i < 0
  · obtain rfl : n = 0 := by omega
    obtain ⟨w1, hw1⟩ : ∃ w1, w.alloc (.cells (madeCells (Value.agg (secV noughts).toArray).cells (0 * 64)) 76) = w1 := ⟨_, rfl⟩
    have hmk0 : (Instr.makeSlice 52 (.int .i64 0) (.int .i64 0)).run Try.prog w = .ok (.slice (some ⟨w.heap.size, 0, none⟩) 0 0) w1 := by rw [← hw1]; exact hmk
    have hsz : w1.heap.size = w.heap.size + 1 := by rw [← hw1]; simp
    have HW := Lib.hid hw1
    clear hmk hw1
    go_enter Try.func9, Try.ntmps9
    go_wp2_with fail
    go_ret
    refine newPost_mk w 0 hn _ ?_
    rw [HW.out]
  · by_cases h2 : i ≤ 4096
    · obtain rfl : i = (n : Int) := by omega
      go_enter Try.func9, Try.ntmps9
      go_wp2_with fail
      go_ret
      exact newPost_mk w n hn _ rfl
    · obtain rfl : n = 4096 := by omega
      obtain ⟨w1, hw1⟩ : ∃ w1, w.alloc (.cells (madeCells (Value.agg (secV noughts).toArray).cells (4096 * 64)) 76) = w1 := ⟨_, rfl⟩
      have hmk0 : (Instr.makeSlice 52 (.int .i64 4096) (.int .i64 4096)).run Try.prog w = .ok (.slice (some ⟨w.heap.size, 0, none⟩) 4096 4096) w1 := by rw [← hw1]; exact hmk
      have hsz : w1.heap.size = w.heap.size + 1 := by rw [← hw1]; simp
      have HW := Lib.hid hw1
      clear hmk hw1
      go_enter Try.func9, Try.ntmps9
      go_wp2_with fail
      go_ret
      refine newPost_mk w 4096 hn _ ?_
      rw [HW.out]
end Go.Proofs.Ytakmkkgpkbpbkaa
