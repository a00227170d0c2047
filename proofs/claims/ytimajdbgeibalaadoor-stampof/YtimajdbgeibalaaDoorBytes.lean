/- Own contracts: bytes that are read, and cloned. No statement is proved here. -/
import Derived.Test.YtimajdbgeibalaaDoorTurn
namespace Go.Proofs.YtimajdbgeibalaaDoor
open Go.RowKit
set_option linter.unusedVariables false

theorem Tryd.info5 : (Tryd.prog.info? 5).map (fun i => (i.zero, i.size, i.bytes)) = some (some (.int .u8 0), 1, 1) := by kernel_rfl
theorem one_cell (w : World) (x : Int) : ∀ (j : Nat) u, [Value.int .u8 x][j]? = some u → (w.alloc (.cells #[.int .u8 x] 5)).cell? ((⟨w.heap.size, 0, none⟩ : Addr).add j) = some u := by
  intro j u hj
  match j, hj with
  | 0, hj => simp at hj; subst hj; simp [Addr.add]

def NewBytes (w : World) (ys : List Int) (e : Ending) (w' : World) : Prop :=
  ∃ v', e = .returned v' ∧ w'.ownsRow w.heap.size 5 1 v' ys.length (ys.map (Value.int .u8)) ∧ Turn (fun _ => False) w w'

theorem toList_nums (xs : List Int) : (strOfNums xs).toList = xs.map fun n => UInt8.ofNat n.toNat := by rw [ByteArray.toList_eq, strOfNums_data]
/-- 'string(v)' of bytes that a call owns. -/
theorem conv_own {w : World} {base : Nat} {v : Value} {xs : List Int} (h : w.ownsRow base 5 1 v xs.length (xs.map (Value.int .u8))) :
    (convert 22 9 v).run Tryd.prog w = .ok (.string (strOfNums xs)) w := by
  rcases h.2 with ⟨rfl, h0⟩ | ⟨g, cap, cur, rfl, _⟩
  · have hx : xs = [] := List.eq_nil_of_length_eq_zero h0
    subst hx
    rw [run_convert_bytes_nil (P := Tryd.prog) w 22 5 Tryd.underlying22 Tryd.underlying5 0 0 9 Tryd.underlying9]
    rfl
  · refine run_convert_bytes_arg (P := Tryd.prog) w 22 5 Tryd.underlying22 Tryd.underlying5 g 0 xs.length cap xs rfl ?_ 9 Tryd.underlying9
    intro i hi
    rw [Nat.zero_add, h.cellAt i (by omega)]
    simp [List.getD, hi]

/-- A slice value that reads as the bytes xs. -/
def Reads (w : World) (v : Value) (xs : List Int) : Prop :=
  (v = .slice none 0 0 ∧ xs = []) ∨ ∃ g o cap, v = .slice (some ⟨g, o, none⟩) xs.length cap ∧ xs.length ≤ cap ∧ ∀ i, i < xs.length → w.cell? ⟨g, o + i, none⟩ = some (.int .u8 (xs.getD i 0))

theorem Reads.of_owns {w : World} {base : Nat} {v : Value} {xs : List Int} (h : w.ownsRow base 5 1 v xs.length (xs.map (Value.int .u8))) : Reads w v xs := by
  rcases h.2 with ⟨rfl, h0⟩ | ⟨g, cap, cur, rfl, _, _, hn, _⟩
  · exact .inl ⟨rfl, List.eq_nil_of_length_eq_zero h0⟩
  · refine .inr ⟨g, 0, cap, rfl, hn, fun i hi => ?_⟩
    rw [Nat.zero_add, h.cellAt i (by omega)]
    simp [List.getD, hi]

theorem Reads.conv {w : World} {v : Value} {xs : List Int} (h : Reads w v xs) : (convert 22 9 v).run Tryd.prog w = .ok (.string (strOfNums xs)) w := by
  rcases h with ⟨rfl, rfl⟩ | ⟨g, o, cap, rfl, hc, hcell⟩
  · rw [run_convert_bytes_nil (P := Tryd.prog) w 22 5 Tryd.underlying22 Tryd.underlying5 0 0 9 Tryd.underlying9]; rfl
  · exact run_convert_bytes_arg (P := Tryd.prog) w 22 5 Tryd.underlying22 Tryd.underlying5 g o xs.length cap xs rfl hcell 9 Tryd.underlying9

/-- .. or an empty one, wherever it lies. -/
def Src (w : World) (v : Value) (xs : List Int) : Prop := Reads w v xs ∨ ∃ x c, v = .slice (some x) 0 c ∧ xs = []

theorem conv_empty (w : World) (x : Addr) (c : Nat) : (convert 22 9 (.slice (some x) 0 c)).run Tryd.prog w = .ok (.string (strOfNums [])) w :=
  run_convert_bytes_back (P := Tryd.prog) w 22 9 5 x c [] Tryd.underlying22 Tryd.underlying5 Tryd.underlying9 (fun j hj => by simp at hj)

theorem Src.conv {w : World} {v : Value} {xs : List Int} (h : Src w v xs) : (convert 22 9 v).run Tryd.prog w = .ok (.string (strOfNums xs)) w := by
  rcases h with h | ⟨x, c, rfl, rfl⟩
  · exact h.conv
  · exact conv_empty w x c

theorem Reads.turn {S : Nat → Prop} {w w' : World} {v : Value} {xs : List Int} (h : Reads w v xs) (ht : Turn S w w') (hn : ∀ k, v.ownBlock = some k → ¬ S k) : Reads w' v xs := by
  rcases h with h | ⟨g, o, cap, rfl, hc, hcell⟩
  · exact .inl h
  · refine .inr ⟨g, o, cap, rfl, hc, fun i hi => ?_⟩
    have hb := World.block_lt_of_cell? w _ (hcell i hi)
    exact (ht.cell (p := ⟨g, o + i, none⟩) hb (hn g rfl)).trans (hcell i hi)

theorem Src.turn {S : Nat → Prop} {w w' : World} {v : Value} {xs : List Int} (h : Src w v xs) (ht : Turn S w w') (hn : ∀ k, v.ownBlock = some k → ¬ S k) : Src w' v xs := by
  rcases h with h | h
  · exact .inl (h.turn ht hn)
  · exact .inr h

/-- The cells of a source, seen behind a new block. -/
theorem src_cells {w : World} {x : Addr} {xs : List Int} {cap : Nat} (h : Src w (.slice (some x) xs.length cap) xs) (o : Obj) :
    ∀ (j : Nat) u, (xs.map (Value.int .u8))[j]? = some u → (w.alloc o).cell? (x.add j) = some u := by
  intro j u hj
  have hjl : j < xs.length := by have := (List.getElem?_eq_some_iff.1 hj).1; simpa using this
  rcases h with (⟨h, _⟩ | ⟨g, o', cap', h, hc, hcell⟩) | ⟨_, _, _, rfl⟩
  · cases h
  · cases h
    have hb := World.block_lt_of_cell? w _ (hcell j hjl)
    have hadd : (⟨g, o', none⟩ : Addr).add j = ⟨g, o' + j, none⟩ := by unfold Addr.add; split <;> simp_all
    rw [hadd, World.cell?_alloc_past _ _ _ hb, hcell j hjl]
    simp [hjl] at hj; subst hj; simp [List.getD, hjl]
  · simp at hjl

theorem src_form {w : World} {v : Value} {xs : List Int} (h : Src w v xs) : (v = .slice none 0 0 ∧ xs = []) ∨ ∃ x cap, v = .slice (some x) xs.length cap := by
  rcases h with (h | ⟨g, o', cap', h, hc, hcell⟩) | ⟨x, c, rfl, rfl⟩
  · exact .inl h
  · exact .inr ⟨_, _, h⟩
  · exact .inr ⟨x, c, rfl⟩

set_option maxHeartbeats 800000 in
set_option maxRecDepth 100000 in
theorem clone_any (v : Value) (xs : List Int) (w : World) (hl : xs.length ≤ 70000000000000) (hr : Src w v xs) :
    Calls Tryd.prog 23 #[v] w (NewBytes w xs) := by
  obtain ⟨i0, hi, hz0, hz1, hz2⟩ := info_parts Tryd.info5
  rcases src_form hr with ⟨rfl, rfl⟩ | ⟨x, cap, rfl⟩
  · have hnil : ∀ w, (binOp .eql 22 (.slice none 0 0) (.slice none 0 0)).run Tryd.prog w = .ok (.bool true) w := fun w => Lib.run_eql_slice_nil (P := Tryd.prog) w 22 5 none 0 0 0 0 Tryd.underlying22
    go_enter Tryd.func23, Tryd.ntmps23
    go_wp2
    go_ret
    exact ⟨_, rfl, World.ownsRow_nil _ _ _ _, Turn.refl _ _⟩
  · have hnil : ∀ w, (binOp .eql 22 (.slice (some x) xs.length cap) (.slice none 0 0)).run Tryd.prog w = .ok (.bool false) w := fun w => Lib.run_eql_slice_nil (P := Tryd.prog) w 22 5 _ _ _ 0 0 Tryd.underlying22
    have HN := Lib.hid (src_cells hr (.cells #[] 5))
    clear hr
    go_enter Tryd.func23, Tryd.ntmps23
    have ho := World.ownsRow_lit (base := w.heap.size) (e := 5) (size := 1) w #[] 0 (Nat.le_refl _) (by unfold maxLen; omega) (by simp)
    go_wp2_with (at_builtin; refine wpList_append_where _ rfl (.tmp 5) (.tmp 6) 22 rfl w.heap.size 5 i0 (.int .u8 0) 1 1 Tryd.underlying22 hi hz0 hz1 hz2 rfl (by decide) _ 0 [] rfl ho x xs.length cap (xs.map (Value.int .u8)) rfl (by simp) HN.out (ints_oneCell _ _) ?c3 ?c4 ?c5 ?_)
    case c3 => unfold maxLen; omega
    case c4 => omega
    intro v' w1 hown hgrow hfresh _
    have hT : Turn (fun _ => False) w w1 := ((Turn.refl (fun _ => False) w).alloc (.cells #[] 5)).grown hgrow (fun k h hk => by simp [Value.ownBlock] at h; omega)
    clear hgrow hfresh ho
    go_wp2
    go_ret
    exact ⟨_, rfl, by simpa using hown, hT⟩

end Go.Proofs.YtimajdbgeibalaaDoor
