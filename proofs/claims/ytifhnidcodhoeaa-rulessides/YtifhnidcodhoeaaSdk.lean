/- Own contracts: sides: kit. No statement is proved here. -/
import Derived.Test.YtifhnidcodhoeaaOka
namespace Go.Proofs.Ytifhnidcodhoeaa
set_option maxRecDepth 100000
open Go.RowKit
set_option linter.unusedVariables false
set_option linter.unusedSimpArgs false

theorem el_size (w : World) : (sizeOf 35).run Try.prog w = .ok 10 w := by
  have h := el_info
  rw [Option.map_eq_some_iff] at h
  obtain ⟨i, hi, hs⟩ := h
  simp [sizeOf, typeInfo, hi, hs]
theorem exec_slice_hi (ev : Operand → Value) (op : Oper) {x y : Operand} (ho : op.op = .slice 23 x none (some y) none) (la : Option Addr) (n lc p : Nat) (hx : ev x = .slice la n lc) (hy : ev y = .int .i64 (p : Int)) (hp : p ≤ lc) (w : World) : (execOp ev op).run Try.prog w = .ok (.value (.slice la p lc)) w := by
  have h1 := run_slice_h (P := Try.prog) (w := w) 23 la n lc Try.underlying23 .i64 (p : Int) (by omega) (by omega)
  have hsz := el_size w
  unfold execOp
  simp only [ho, hx, hy, Option.map_some, Option.map_none]
  simp only [Sem.run_bind]
  rw [run_sliceAt_slice (w := w) 23 _ _ _ _ Try.underlying23, h1]
  rw [show Try.prog.elem 23 = 35 from rfl, hsz]
  cases la <;> simp [sliced, Addr.add]

def rE (i : Nat) : El := El.mk (10 + (i : Int)) 2 1 0 (({ data := #[114] } : ByteArray) ++ strOfNums [97 + (i : Int)]) 0 0 ByteArray.empty ByteArray.empty ByteArray.empty
def sE (i : Nat) : El := El.mk (20 + (i : Int)) 1 (10 + (i : Int)) 0 ({ data := #[115] } : ByteArray) 0 0 ByteArray.empty ByteArray.empty ByteArray.empty
def regL (k : Nat) : List El := (El.mk 1 1 0 0 ({ data := #[116, 111, 112] } : ByteArray) 0 0 ByteArray.empty ByteArray.empty ByteArray.empty) :: (List.range k).map rE
def sidL (k j : Nat) : List El := regL k ++ (List.range j).map sE
theorem regL_succ (k : Nat) : regL (k + 1) = regL k ++ [rE k] := by unfold regL; rw [List.range_succ, List.map_append]; rfl
theorem sidL_succ (k j : Nat) : sidL k (j + 1) = sidL k j ++ [sE j] := by unfold sidL; rw [List.range_succ, List.map_append, List.append_assoc]; rfl
theorem regL_len (k : Nat) : (regL k).length = k + 1 := by simp [regL]
theorem sidL_len (k j : Nat) : (sidL k j).length = k + 1 + j := by simp [sidL, regL_len]
theorem sidL_zero (k : Nat) : sidL k 0 = regL k := by simp [sidL]
def lastE (c : Int) : El := El.mk 30 c 1 0 ByteArray.empty 0 0 ByteArray.empty ByteArray.empty ByteArray.empty
theorem sid_check : ∀ k : Fin 5, checkE (sidL (k.val + 1) (k.val + 1)) = (0, 0) ∧ checkE (sidL (k.val + 1) (k.val + 1) ++ [lastE 3]) = (8, 1) ∧ checkE (sidL (k.val + 1) (k.val + 1) ++ [lastE 4]) = (8, 1) := by decide +kernel
theorem own_bytes2 (w : World) : (w.alloc (.cells #[.int .u8 3, .int .u8 4] 5)).cell? ⟨w.heap.size, 0, none⟩ = some (.int .u8 3) ∧ (w.alloc (.cells #[.int .u8 3, .int .u8 4] 5)).cell? ⟨w.heap.size, 1, none⟩ = some (.int .u8 4) := by
  have h := box_alloc w 5 [.int .u8 3, .int .u8 4]
  exact ⟨h.cell 0 _ rfl, h.cell 1 _ rfl⟩
theorem OwV.cap {b : Nat} {w : World} {a : Option Addr} {n c : Nat} {l : List El} (h : OwV b w (.slice a n c) l) (hn : l.length = n) : n ≤ c := by
  subst hn
  rcases h.2 with ⟨h1, h2⟩ | ⟨g, cap, cur, h1, h2, h3, h4, _⟩
  · omega
  · injection h1 with _ _ q3
    omega
/-- The last one is cut off. -/
theorem own_cut {w : World} {b : Nat} {a : Option Addr} {n n2 c : Nat} {l : List El} {x : El} (h : OwV b w (.slice a n2 c) (l ++ [x])) (hn : l.length = n) (hn2 : n2 = n + 1) : OwV b w (.slice a n c) l := by
  subst hn hn2
  have hl := elsV_len l
  rcases h.2 with ⟨h1, _⟩ | ⟨g, cap, cur, h1, h2, h3, h4, h5, h6, h7⟩
  · injection h1 with _ q _
    cases q
  · injection h1 with q1 q2 q3
    subst q1 q3
    refine ⟨by rw [hl]; omega, .inr ⟨g, c, cur, rfl, h2, h3, by rw [List.length_append, List.length_singleton] at h4; omega, h5, h6, ?_⟩⟩
    have e : cur.toList.take (l.length * 10) = (cur.toList.take ((l ++ [x]).length * 10)).take (l.length * 10) := by
      rw [List.take_take, List.length_append, List.length_singleton, Nat.min_eq_left (by omega)]
    rw [e, h7, elsV_app, List.take_append_of_le_length (by omega), List.take_of_length_le (by omega)]

end Go.Proofs.Ytifhnidcodhoeaa
