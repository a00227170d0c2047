/- Own contracts: what an Eye's calls do (Clone, NewEye, Fault, Fail, Left). No statement is proved here. -/
import Derived.Test.YtokjlhpkjebnkaaRef
import Derived.Deep.QuietTactic
import Derived.BigQuiet
namespace Go.Proofs.Ytokjlhpkjebnkaa
open Go.RowKit

/-- A slice value that reads as the bytes xs. -/
def Reads (w : World) (v : Value) (xs : List Int) : Prop :=
  (v = .slice none 0 0 ∧ xs = []) ∨ ∃ g o cap, v = .slice (some ⟨g, o, none⟩) xs.length cap ∧ xs.length ≤ cap ∧ ∀ i, i < xs.length → w.cell? ⟨g, o + i, none⟩ = some (.int .u8 (xs.getD i 0))

theorem Reads.of_owns {w : World} {base : Nat} {v : Value} {xs : List Int} (h : w.ownsRow base 5 1 v xs.length (xs.map (Value.int .u8))) : Reads w v xs := by
  rcases h.2 with ⟨rfl, h0⟩ | ⟨g, cap, cur, rfl, _, _, hn, _⟩
  · exact .inl ⟨rfl, List.eq_nil_of_length_eq_zero h0⟩
  · refine .inr ⟨g, 0, cap, rfl, hn, fun i hi => ?_⟩
    rw [Nat.zero_add, h.cellAt i (by omega)]
    simp [List.getD, hi]

theorem Reads.conv {w : World} {v : Value} {xs : List Int} (h : Reads w v xs) : (convert 49 9 v).run Try.prog w = .ok (.string (strOfNums xs)) w := by
  rcases h with ⟨rfl, rfl⟩ | ⟨g, o, cap, rfl, hc, hcell⟩
  · rw [run_convert_bytes_nil (P := Try.prog) w 49 5 Try.underlying49 Try.underlying5 0 0 9 Try.underlying9]; rfl
  · exact run_convert_bytes_arg (P := Try.prog) w 49 5 Try.underlying49 Try.underlying5 g o xs.length cap xs rfl hcell 9 Try.underlying9

/-- .. or an empty one, wherever it lies. -/
def Src (w : World) (v : Value) (xs : List Int) : Prop := Reads w v xs ∨ ∃ x c, v = .slice (some x) 0 c ∧ xs = []

theorem conv_empty (w : World) (x : Addr) (c : Nat) : (convert 49 9 (.slice (some x) 0 c)).run Try.prog w = .ok (.string (strOfNums [])) w :=
  run_convert_bytes_back (P := Try.prog) w 49 9 5 x c [] Try.underlying49 Try.underlying5 Try.underlying9 (fun j hj => by simp at hj)

theorem Src.conv {w : World} {v : Value} {xs : List Int} (h : Src w v xs) : (convert 49 9 v).run Try.prog w = .ok (.string (strOfNums xs)) w := by
  rcases h with h | ⟨x, c, rfl, rfl⟩
  · exact h.conv
  · exact conv_empty w x c

theorem Reads.turn {S : Nat → Prop} {w w' : World} {v : Value} {xs : List Int} (h : Reads w v xs) (ht : Turn S w w') (hn : ∀ k, v.ownBlock = some k → ¬ S k) : Reads w' v xs := by
  rcases h with h | ⟨g, o, cap, rfl, hc, hcell⟩
  · exact .inl h
  · refine .inr ⟨g, o, cap, rfl, hc, fun i hi => ?_⟩
    have hb := World.block_lt_of_cell? w _ (hcell i hi)
    exact (ht.cell (p := ⟨g, o + i, none⟩) hb (hn g rfl)).trans (hcell i hi)

theorem Src.turn {S : Nat → Prop} {w w' : World} {v : Value} {xs : List Int} (h : Src w v xs) (ht : Turn S w w') (hn : ∀ k, v.ownBlock = some k → ¬ S k) : Src w' v xs := by
  rcases h with h | h
  · exact .inl (h.turn ht hn)
  · exact .inr h

/-- The cells of a source, seen behind a new block. -/
theorem src_cells {w : World} {x : Addr} {xs : List Int} {cap : Nat} (h : Src w (.slice (some x) xs.length cap) xs) (o : Obj) :
    ∀ (j : Nat) u, (xs.map (Value.int .u8))[j]? = some u → (w.alloc o).cell? (x.add j) = some u := by
  intro j u hj
  have hjl : j < xs.length := by have := (List.getElem?_eq_some_iff.1 hj).1; simpa using this
  rcases h with (⟨h, _⟩ | ⟨g, o', cap', h, hc, hcell⟩) | ⟨_, _, _, rfl⟩
  · cases h
  · cases h
    have hb := World.block_lt_of_cell? w _ (hcell j hjl)
    have hadd : (⟨g, o', none⟩ : Addr).add j = ⟨g, o' + j, none⟩ := by unfold Addr.add; split <;> simp_all
    rw [hadd, World.cell?_alloc_past _ _ _ hb, hcell j hjl]
    simp [hjl] at hj; subst hj; simp [List.getD, hjl]
  · simp at hjl

theorem src_form {w : World} {v : Value} {xs : List Int} (h : Src w v xs) : (v = .slice none 0 0 ∧ xs = []) ∨ ∃ x cap, v = .slice (some x) xs.length cap := by
  rcases h with (h | ⟨g, o', cap', h, hc, hcell⟩) | ⟨x, c, rfl, rfl⟩
  · exact .inl h
  · exact .inr ⟨_, _, h⟩
  · exact .inr ⟨x, c, rfl⟩

set_option maxHeartbeats 800000 in
set_option maxRecDepth 100000 in
theorem clone_any (v : Value) (xs : List Int) (w : World) (hl : xs.length ≤ 70000000000000) (hr : Src w v xs) :
    Calls Try.prog 60 #[v] w (NewBytes w xs) := by
  obtain ⟨i0, hi, hz0, hz1, hz2⟩ := info_parts Try.info5
  rcases src_form hr with ⟨rfl, rfl⟩ | ⟨x, cap, rfl⟩
  · have hnil : ∀ w, (binOp .eql 49 (.slice none 0 0) (.slice none 0 0)).run Try.prog w = .ok (.bool true) w := fun w => Lib.run_eql_slice_nil (P := Try.prog) w 49 5 none 0 0 0 0 Try.underlying49
    go_enter Try.func60, Try.ntmps60
    go_wp2
    go_ret
    exact ⟨_, rfl, World.ownsRow_nil _ _ _ _, Turn.refl _ _⟩
  · have hnil : ∀ w, (binOp .eql 49 (.slice (some x) xs.length cap) (.slice none 0 0)).run Try.prog w = .ok (.bool false) w := fun w => Lib.run_eql_slice_nil (P := Try.prog) w 49 5 _ _ _ 0 0 Try.underlying49
    have HN := Lib.hid (src_cells hr (.cells #[] 5))
    clear hr
    go_enter Try.func60, Try.ntmps60
    have ho := World.ownsRow_lit (base := w.heap.size) (e := 5) (size := 1) w #[] 0 (Nat.le_refl _) (by unfold maxLen; omega) (by simp)
    go_wp2_with (at_builtin; refine wpList_append_where _ rfl (.tmp 5) (.tmp 6) 49 rfl w.heap.size 5 i0 (.int .u8 0) 1 1 Try.underlying49 hi hz0 hz1 hz2 rfl (by decide) _ 0 [] rfl ho x xs.length cap (xs.map (Value.int .u8)) rfl (by simp) HN.out (ints_oneCell _ _) ?c3 ?c4 ?c5 ?_)
    case c3 => unfold maxLen; omega
    case c4 => omega
    intro v' w1 hown hgrow hfresh _
    have hT : Turn (fun _ => False) w w1 := ((Turn.refl (fun _ => False) w).alloc (.cells #[] 5)).grown hgrow (fun k h hk => by simp [Value.ownBlock] at h; omega)
    clear hgrow hfresh ho
    go_wp2
    go_ret
    exact ⟨_, rfl, by simpa using hown, hT⟩

/-- An eye at block X. -/
structure EyeIs (w : World) (X : Nat) (v : Value) (f : Int) : Prop where
  rest : w.cell? ⟨X, 0, none⟩ = some v
  fault : w.cell? ⟨X, 1, none⟩ = some (.int .i64 f)
  open0 : w.frozen? ⟨X, 0, none⟩ = false
  open1 : w.frozen? ⟨X, 1, none⟩ = false
  apart : v.ownBlock ≠ some X

theorem EyeIs.lt {w : World} {X : Nat} {v : Value} {f : Int} (h : EyeIs w X v f) : X < w.heap.size := World.block_lt_of_cell? w _ h.rest

theorem EyeIs.turn {w w' : World} {X : Nat} {v : Value} {f : Int} {S : Nat → Prop} (h : EyeIs w X v f) (ht : Turn S w w') (hX : ¬ S X) : EyeIs w' X v f :=
  ⟨(ht.cell (p := ⟨X, 0, none⟩) h.lt hX).trans h.rest, (ht.cell (p := ⟨X, 1, none⟩) h.lt hX).trans h.fault, (ht.frozen (p := ⟨X, 0, none⟩) h.lt hX).trans h.open0, (ht.frozen (p := ⟨X, 1, none⟩) h.lt hX).trans h.open1, h.apart⟩

def NewEyePost (w : World) (xs : List Int) (e : Ending) (w' : World) : Prop :=
  ∃ X v, e = .returned (.pointer (some ⟨X, 0, none⟩)) ∧ w.heap.size ≤ X ∧ EyeIs w' X v 0 ∧ Reads w' v xs ∧ (∀ k, v.ownBlock = some k → w.heap.size ≤ k) ∧ Turn (fun _ => False) w w'

set_option maxHeartbeats 800000 in
set_option maxRecDepth 100000 in
theorem neweye_any (v : Value) (xs : List Int) (w : World) (hl : xs.length ≤ 70000000000000) (hr : Src w v xs) :
    Calls Try.prog 47 #[v] w (NewEyePost w xs) := by
  go_enter Try.func47, Try.ntmps47
  go_wp2_with fail
  refine (clone_any v xs _ hl hr).mono ?_
  rintro e w1 ⟨v', rfl, ho, ht⟩
  have hne : v'.ownBlock ≠ some w1.heap.size := fun h => by have := (ho.lt _ h).2; omega
  have hlo : ∀ k, v'.ownBlock = some k → w.heap.size ≤ k := fun k h => (ho.lt k h).1
  have hrd := (Reads.of_owns ho).turn ((Turn.refl (fun _ => False) w1).alloc (.cells #[v', .int .i64 0] 96)) (fun _ _ => id)
  have hT := ht.alloc (.cells #[v', .int .i64 0] 96)
  obtain ⟨a', l', c', rfl⟩ : ∃ a' l' c', v' = .slice a' l' c' := by
    rcases ho.2 with ⟨h, _⟩ | ⟨g, cap, cur, h, _⟩
    · exact ⟨_, _, _, h⟩
    · exact ⟨_, _, _, h⟩
  have hsz := ht.size
  clear ht ho
  go_wp2
  go_ret
  exact ⟨_, _, rfl, hsz, ⟨by simp, by simp, by simp, by simp, hne⟩, hrd, hlo, hT⟩

theorem fault_any (X : Nat) (v : Value) (f : Int) (w : World) (h : EyeIs w X v f) :
    Calls Try.prog 62 #[.pointer (some ⟨X, 0, none⟩)] w fun e w' => e = .returned (.int .i64 f) ∧ w = w' := by
  have h1 := h.fault
  go_enter Try.func62, Try.ntmps62
  go_wp2
  go_ret
  exact ⟨rfl, rfl⟩

theorem fault_nil (w : World) : Calls Try.prog 62 #[.pointer none] w fun e w' => e = .returned (.int .i64 2) ∧ w = w' := by
  go_enter Try.func62, Try.ntmps62
  go_wp2
  go_ret
  exact ⟨rfl, rfl⟩

theorem left_any (X : Nat) (a : Option Addr) (l c : Nat) (f : Int) (w : World) (h : EyeIs w X (.slice a l c) f) :
    Calls Try.prog 65 #[.pointer (some ⟨X, 0, none⟩)] w fun e w' => e = .returned (.int .i64 (l : Int)) ∧ w = w' := by
  have h1 := h.rest
  go_enter Try.func65, Try.ntmps65
  go_wp2
  go_ret
  exact ⟨rfl, rfl⟩

theorem left_nil (w : World) : Calls Try.prog 65 #[.pointer none] w fun e w' => e = .returned (.int .i64 0) ∧ w = w' := by
  go_enter Try.func65, Try.ntmps65
  go_wp2
  go_ret
  exact ⟨rfl, rfl⟩

/-- Fail where there is no fault yet. -/
theorem fail_first (X : Nat) (v : Value) (f : Int) (w : World) (h : EyeIs w X v 0) (hf : f ≠ 0) :
    Calls Try.prog 49 #[.pointer (some ⟨X, 0, none⟩), .int .i64 f] w fun e w' => e = .returned (.tuple #[]) ∧ EyeIs w' X (.slice none 0 0) f ∧ Turn (fun k => k = X) w w' := by
  have h0 := h.rest
  have h1 := h.fault
  have g0 := h.open0
  have g1 := h.open1
  have hb : (f != 0) = true := by simp [hf]
  go_enter Try.func49, Try.ntmps49
  go_wp2_with (go_at_call 62; refine (fault_any X v 0 _ h).mono ?_; rintro e w' ⟨rfl, rfl⟩)
  go_end0
  refine ⟨rfl, ⟨?_, ?_, ?_, ?_, by simp [Value.ownBlock]⟩, ((Turn.refl (fun k => k = X) w).setCell (p := ⟨X, 1, none⟩) (fun _ => rfl) _).setCell (p := ⟨X, 0, none⟩) (fun _ => rfl) _⟩
  · exact World.cell?_setCell_same _ _ _ (u := v) (by rw [World.cell?_setCell_other _ _ _ _ (by simp)]; exact h0)
  · rw [World.cell?_setCell_other _ _ _ _ (by simp)]; exact World.cell?_setCell_same _ _ _ h1
  · simpa using g0
  · simpa using g1

end Go.Proofs.Ytokjlhpkjebnkaa
