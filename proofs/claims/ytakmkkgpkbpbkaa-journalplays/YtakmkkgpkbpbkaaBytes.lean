/- Own contracts: bytes that are read, and cloned. No statement is proved here. -/
import Derived.Test.YtakmkkgpkbpbkaaDisk
namespace Go.Proofs.Ytakmkkgpkbpbkaa
open Go.RowKit
set_option linter.unusedVariables false

theorem Try.info5 : (Try.prog.info? 5).map (fun i => (i.zero, i.size, i.bytes)) = some (some (.int .u8 0), 1, 1) := by kernel_rfl
theorem one_cell (w : World) (x : Int) : ∀ (j : Nat) u, [Value.int .u8 x][j]? = some u → (w.alloc (.cells #[.int .u8 x] 5)).cell? ((⟨w.heap.size, 0, none⟩ : Addr).add j) = some u := by
  intro j u hj
  match j, hj with
  | 0, hj => simp at hj; subst hj; simp [Addr.add]

def NewBytes (w : World) (ys : List Int) (e : Ending) (w' : World) : Prop :=
  ∃ v', e = .returned v' ∧ w'.ownsRow w.heap.size 5 1 v' ys.length (ys.map (Value.int .u8)) ∧ Turn (fun _ => False) w w'

theorem toList_nums (xs : List Int) : (strOfNums xs).toList = xs.map fun n => UInt8.ofNat n.toNat := by rw [ByteArray.toList_eq, strOfNums_data]
/-- 'string(v)' of bytes that a call owns. -/
theorem conv_own {w : World} {base : Nat} {v : Value} {xs : List Int} (h : w.ownsRow base 5 1 v xs.length (xs.map (Value.int .u8))) :
    (convert 31 9 v).run Try.prog w = .ok (.string (strOfNums xs)) w := by
  rcases h.2 with ⟨rfl, h0⟩ | ⟨g, cap, cur, rfl, _⟩
  · have hx : xs = [] := List.eq_nil_of_length_eq_zero h0
    subst hx
    rw [run_convert_bytes_nil (P := Try.prog) w 31 5 Try.underlying31 Try.underlying5 0 0 9 Try.underlying9]
    rfl
  · refine run_convert_bytes_arg (P := Try.prog) w 31 5 Try.underlying31 Try.underlying5 g 0 xs.length cap xs rfl ?_ 9 Try.underlying9
    intro i hi
    rw [Nat.zero_add, h.cellAt i (by omega)]
    simp [List.getD, hi]

/-- A slice value that reads as the bytes xs. -/
def Reads (w : World) (v : Value) (xs : List Int) : Prop :=
  (v = .slice none 0 0 ∧ xs = []) ∨ ∃ g o cap, v = .slice (some ⟨g, o, none⟩) xs.length cap ∧ xs.length ≤ cap ∧ ∀ i, i < xs.length → w.cell? ⟨g, o + i, none⟩ = some (.int .u8 (xs.getD i 0))

theorem Reads.of_owns {w : World} {base : Nat} {v : Value} {xs : List Int} (h : w.ownsRow base 5 1 v xs.length (xs.map (Value.int .u8))) : Reads w v xs := by
  rcases h.2 with ⟨rfl, h0⟩ | ⟨g, cap, cur, rfl, _, _, hn, _⟩
  · exact .inl ⟨rfl, List.eq_nil_of_length_eq_zero h0⟩
  · refine .inr ⟨g, 0, cap, rfl, hn, fun i hi => ?_⟩
    rw [Nat.zero_add, h.cellAt i (by omega)]
    simp [List.getD, hi]

theorem Reads.conv {w : World} {v : Value} {xs : List Int} (h : Reads w v xs) : (convert 31 9 v).run Try.prog w = .ok (.string (strOfNums xs)) w := by
  rcases h with ⟨rfl, rfl⟩ | ⟨g, o, cap, rfl, hc, hcell⟩
  · rw [run_convert_bytes_nil (P := Try.prog) w 31 5 Try.underlying31 Try.underlying5 0 0 9 Try.underlying9]; rfl
  · exact run_convert_bytes_arg (P := Try.prog) w 31 5 Try.underlying31 Try.underlying5 g o xs.length cap xs rfl hcell 9 Try.underlying9

/-- .. or an empty one, wherever it lies. -/
def Src (w : World) (v : Value) (xs : List Int) : Prop := Reads w v xs ∨ ∃ x c, v = .slice (some x) 0 c ∧ xs = []

theorem conv_empty (w : World) (x : Addr) (c : Nat) : (convert 31 9 (.slice (some x) 0 c)).run Try.prog w = .ok (.string (strOfNums [])) w :=
  run_convert_bytes_back (P := Try.prog) w 31 9 5 x c [] Try.underlying31 Try.underlying5 Try.underlying9 (fun j hj => by simp at hj)

theorem Src.conv {w : World} {v : Value} {xs : List Int} (h : Src w v xs) : (convert 31 9 v).run Try.prog w = .ok (.string (strOfNums xs)) w := by
  rcases h with h | ⟨x, c, rfl, rfl⟩
  · exact h.conv
  · exact conv_empty w x c

theorem Reads.turn {S : Nat → Prop} {w w' : World} {v : Value} {xs : List Int} (h : Reads w v xs) (ht : Turn S w w') (hn : ∀ k, v.ownBlock = some k → ¬ S k) : Reads w' v xs := by
  rcases h with h | ⟨g, o, cap, rfl, hc, hcell⟩
  · exact .inl h
  · refine .inr ⟨g, o, cap, rfl, hc, fun i hi => ?_⟩
    have hb := World.block_lt_of_cell? w _ (hcell i hi)
    exact (ht.cell (p := ⟨g, o + i, none⟩) hb (hn g rfl)).trans (hcell i hi)

theorem Src.turn {S : Nat → Prop} {w w' : World} {v : Value} {xs : List Int} (h : Src w v xs) (ht : Turn S w w') (hn : ∀ k, v.ownBlock = some k → ¬ S k) : Src w' v xs := by
  rcases h with h | h
  · exact .inl (h.turn ht hn)
  · exact .inr h

/-- The cells of a source, seen behind a new block. -/
theorem src_cells {w : World} {x : Addr} {xs : List Int} {cap : Nat} (h : Src w (.slice (some x) xs.length cap) xs) (o : Obj) :
    ∀ (j : Nat) u, (xs.map (Value.int .u8))[j]? = some u → (w.alloc o).cell? (x.add j) = some u := by
  intro j u hj
  have hjl : j < xs.length := by have := (List.getElem?_eq_some_iff.1 hj).1; simpa using this
  rcases h with (⟨h, _⟩ | ⟨g, o', cap', h, hc, hcell⟩) | ⟨_, _, _, rfl⟩
  · cases h
  · cases h
    have hb := World.block_lt_of_cell? w _ (hcell j hjl)
    have hadd : (⟨g, o', none⟩ : Addr).add j = ⟨g, o' + j, none⟩ := by unfold Addr.add; split <;> simp_all
    rw [hadd, World.cell?_alloc_past _ _ _ hb, hcell j hjl]
    simp [hjl] at hj; subst hj; simp [List.getD, hjl]
  · simp at hjl

theorem src_form {w : World} {v : Value} {xs : List Int} (h : Src w v xs) : (v = .slice none 0 0 ∧ xs = []) ∨ ∃ x cap, v = .slice (some x) xs.length cap := by
  rcases h with (h | ⟨g, o', cap', h, hc, hcell⟩) | ⟨x, c, rfl, rfl⟩
  · exact .inl h
  · exact .inr ⟨_, _, h⟩
  · exact .inr ⟨x, c, rfl⟩

/-- What a source is: a slice, whose cells are there. -/
theorem src_any {w : World} {v : Value} {xs : List Int} (h : Src w v xs) : ∃ a c, v = .slice a xs.length c ∧ (0 < xs.length → xs.length ≤ c ∧ ∃ g o, a = some ⟨g, o, none⟩ ∧ ∀ i, i < xs.length → w.cell? ⟨g, o + i, none⟩ = some (.int .u8 (xs.getD i 0))) := by
  rcases h with (⟨rfl, rfl⟩ | ⟨g, o, cap, rfl, hc, hcell⟩) | ⟨x, c, rfl, rfl⟩
  · exact ⟨_, _, rfl, fun h => by simp at h⟩
  · exact ⟨_, _, rfl, fun _ => ⟨hc, g, o, rfl, hcell⟩⟩
  · exact ⟨_, _, rfl, fun h => by simp at h⟩

end Go.Proofs.Ytakmkkgpkbpbkaa
