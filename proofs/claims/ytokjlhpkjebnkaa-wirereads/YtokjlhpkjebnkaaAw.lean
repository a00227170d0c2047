/- Own contracts: the chapter's example. No statement is proved here. -/
import Derived.Test.YtokjlhpkjebnkaaEn
namespace Go.Proofs.Ytokjlhpkjebnkaa
set_option maxRecDepth 100000
open Go.RowKit
set_option linter.unusedVariables false
set_option linter.unusedSimpArgs false


theorem bytes_nil : bytesE [] = [67, 49, 128] := by
  unfold bytesE elemsB
  rw [show ([] : List El).length = 0 from rfl, numB_small (by omega)]
  rfl
theorem right_nil : rightE [] = true := by decide +kernel
theorem str_nil : (strOfNums [67, 49, 128]).toList = [67, 49, 128] := by rw [toList_nums]; decide
theorem awake10 (w : World) : Calls Try.prog 27 #[] w fun e w' => e = .returned (.bool true) ∧ Turn (fun _ => False) w w' := by
  go_enter Try.func27, Try.ntmps27
  go_wp2_with fail
  refine (encode_any w (.slice none 0 0) [] (.inl ⟨rfl, rfl⟩) (fun x hx => by simp at hx) (by simp)).mono ?_
  rintro e w2 ⟨t2, ⟨h, _⟩ | ⟨_, v, rfl, ho⟩⟩
  · rw [right_nil] at h; cases h
  · rw [bytes_nil] at ho
    have hq := str_nil
    have T2 := Lib.hid t2
    obtain ⟨a, c, hv⟩ := own_slice ho
    subst hv
    have hcv : (convert 49 9 (.slice a 3 c)).run Try.prog w2 = .ok (.string (strOfNums [67, 49, 128])) w2 := conv_own ho
    clear ho t2
    go_wp2_with fail
    go_ret
    exact ⟨by first | rfl | simp, T2.out⟩
def El.nk (n k : Int) : El := ⟨n, k, 0, 0, e0, 0, 0, e0, e0, e0⟩
theorem bytes_one (n k : Int) (hn : 1 ≤ n ∧ n ≤ 127) (hk : 0 ≤ k ∧ k < 128) : bytesE [El.nk n k] = [67, 49, 129, n + 128, k + 128, 128, 128, 128, 128, 128, 128, 128, 128] := by
  have h0 : numB 0 = [128] := by rw [numB_small (by omega)]; rfl
  have h1 : numB 1 = [129] := by rw [numB_small (by omega)]; rfl
  have hN : numB (n - 0).toNat = [n + 128] := by rw [numB_small (by omega)]; congr 1; omega
  have hK : numB k.toNat = [k + 128] := by rw [numB_small (by omega)]; congr 1; omega
  have ht : textB e0 = [128] := by
    unfold textB
    rw [show e0.size = 0 from rfl, h0]
    rfl
  simp only [bytesE, elemsB, elemB, El.nk, List.length_cons, List.length_nil, Int.toNat_zero, Nat.zero_add, h0, h1, hN, hK, ht, List.cons_append, List.nil_append, List.append_nil]
theorem build_nk (n k : Int) (w : World) : (Instr.build 24 #[(0, .int .i64 n), (1, .int .u8 k)]).run Try.prog w = .ok (.agg (El.nk n k).vals.toArray) w := by kernel_rfl
theorem exec_build_nk (ev : Operand → Value) (op : Oper) (x y : Operand) (n k : Int) (ho : op.op = .build 24 #[(0, x), (1, y)]) (hx : ev x = .int .i64 n) (hy : ev y = .int .u8 k) (w : World) : (execOp ev op).run Try.prog w = .ok (.value (.agg (El.nk n k).vals.toArray)) w := by
  unfold execOp
  simp only [ho, List.map_toArray, List.map_cons, List.map_nil, hx, hy, Sem.run_bind, Sem.run_pure, build_nk, Result.andThen_ok]
theorem right_one (n k : Int) (hn : 1 ≤ n ∧ n ≤ 127) : rightE [El.nk n k] = true := by
  rw [right_iff]
  refine ⟨by simp, List.pairwise_singleton _ _, fun x hx => ?_⟩
  rw [List.mem_singleton.1 hx]
  have z : (0 : Int) ≤ 0 ∧ (0 : Int) ≤ 1048576 := by omega
  have t : e0.size ≤ 12 := by decide
  exact ⟨⟨hn.1, by show n ≤ 1048576; omega⟩, z, z, z, z, t, t, t, t⟩
theorem build_ten (a b : Int) (w : World) : (Instr.buildSlice 49 10 #[(0, .int .u8 a), (1, .int .u8 b), (2, .int .u8 128), (3, .int .u8 128), (4, .int .u8 128), (5, .int .u8 128), (6, .int .u8 128), (7, .int .u8 128), (8, .int .u8 128), (9, .int .u8 128)]).run Try.prog w = .ok (.slice (some ⟨w.heap.size, 0, none⟩) 10 10) (w.alloc (.cells (([a, b, 128, 128, 128, 128, 128, 128, 128, 128] : List Int).map (Value.int .u8)).toArray 5)) := by
  obtain ⟨i0, hi, hz0, hz1, hz2⟩ := info_parts Try.info5
  refine run_buildSlice (P := Try.prog) w 49 5 10 _ _ i0 _ Try.underlying49 hi hz0 (by rw [hz1]; decide) (by rw [hz1]; decide) ?_
  rw [hz1]
  kernel_rfl
theorem exec_ten (ev : Operand → Value) (op : Oper) (x y : Operand) (a b : Int) (ho : op.op = .buildSlice 49 10 #[(0, x), (1, y), (2, .const (.int .u8 128)), (3, .const (.int .u8 128)), (4, .const (.int .u8 128)), (5, .const (.int .u8 128)), (6, .const (.int .u8 128)), (7, .const (.int .u8 128)), (8, .const (.int .u8 128)), (9, .const (.int .u8 128))]) (hc : ev (.const (.int .u8 128)) = .int .u8 128) (hx : ev x = .int .u8 a) (hy : ev y = .int .u8 b) (w : World) : (execOp ev op).run Try.prog w = .ok (.value (.slice (some ⟨w.heap.size, 0, none⟩) 10 10)) (w.alloc (.cells (([a, b, 128, 128, 128, 128, 128, 128, 128, 128] : List Int).map (Value.int .u8)).toArray 5)) := by
  unfold execOp
  simp only [ho, List.map_toArray, List.map_cons, List.map_nil, hc, hx, hy, Sem.run_bind, Sem.run_pure, build_ten, Result.andThen_ok]
theorem reads_block (w : World) (xs : List Int) (h : xs.length = 10) : Reads (w.alloc (.cells (xs.map (Value.int .u8)).toArray 5)) (.slice (some ⟨w.heap.size, 0, none⟩) 10 10) xs := by
  refine .inr ⟨w.heap.size, 0, 10, by rw [h], by omega, fun i hi => ?_⟩
  rw [cell_of_row _ _ _ _ 5 (0, 0) (heap_alloc_new w _)]
  simp [List.getD, hi]
end Go.Proofs.Ytokjlhpkjebnkaa
