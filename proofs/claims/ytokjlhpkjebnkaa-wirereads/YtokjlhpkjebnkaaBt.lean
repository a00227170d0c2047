/- Own contracts: charts there and back. No statement is proved here. -/
import Derived.Test.YtokjlhpkjebnkaaDc
import Derived.Test.YtokjlhpkjebnkaaWon
namespace Go.Proofs.Ytokjlhpkjebnkaa
set_option maxRecDepth 100000
open Go.RowKit
set_option linter.unusedVariables false
set_option linter.unusedSimpArgs false


theorem bytes8_append {a b : List Int} (h1 : Bytes8 a) (h2 : Bytes8 b) : Bytes8 (a ++ b) := fun x hx => by
  rcases List.mem_append.1 hx with h | h
  · exact h1 x h
  · exact h2 x h
theorem bytes8_sB (s : ByteArray) : Bytes8 (sB s) := fun x hx => by
  unfold sB at hx
  obtain ⟨b, _, rfl⟩ := List.mem_map.1 hx
  have := b.toNat_lt
  omega
theorem bytes8_text (s : ByteArray) : Bytes8 (textB s) := bytes8_append (numB_bytes8 _) (bytes8_sB s)
theorem bytes8_elem (a : Int) (x : El) : Bytes8 (elemB a x) := by
  unfold elemB
  exact bytes8_append (bytes8_append (bytes8_append (bytes8_append (bytes8_append (bytes8_append (bytes8_append (bytes8_append (bytes8_append (numB_bytes8 _) (numB_bytes8 _)) (numB_bytes8 _)) (numB_bytes8 _)) (numB_bytes8 _)) (numB_bytes8 _)) (bytes8_text _)) (bytes8_text _)) (bytes8_text _)) (bytes8_text _)
theorem bytes8_elems : ∀ (l : List El) (a : Int), Bytes8 (elemsB a l)
  | [], _ => fun x hx => by simp [elemsB] at hx
  | x :: l, a => bytes8_append (bytes8_elem a x) (bytes8_elems l x.id)
theorem bytes8_chart (l : List El) : Bytes8 (bytesE l) := by
  unfold bytesE
  refine bytes8_append (bytes8_append (fun x hx => ?_) (numB_bytes8 _)) (bytes8_elems l 0)
  simp only [List.mem_cons, List.not_mem_nil, or_false] at hx
  omega
theorem bytesE_len {l : List El} (hr : rightE l = true) (hk : ∀ x ∈ l, 0 ≤ x.kind ∧ x.kind ≤ 255) : (bytesE l).length ≤ 7000 := by
  obtain ⟨h40, _, hf⟩ := right_iff.1 hr
  have h1 := elemsB_len hf hk 0 (Int.le_refl 0)
  have h2 := numB_small9 l.length (by omega)
  unfold bytesE
  simp only [List.length_append, List.length_cons, List.length_nil]
  omega
theorem dec_nil : decE [] = none := by decide +kernel
/-- A right chart comes back. -/
def BackPost (w : World) (C : List El) (e : Ending) (w' : World) : Prop := ∃ R, e = .returned (.tuple #[.slice (some ⟨R, 0, none⟩) C.length C.length, .int .i64 0]) ∧ RowV w' (.slice (some ⟨R, 0, none⟩) C.length C.length) C ∧ Turn (fun _ => False) w w'
theorem back_any (w : World) (base : Nat) (v : Value) (C : List El) (hr : rightE C = true) (hk : ∀ x ∈ C, 0 ≤ x.kind ∧ x.kind ≤ 255) (ho : w.ownsRow base 5 1 v (bytesE C).length ((bytesE C).map (Value.int .u8))) : Calls Try.prog 32 #[v] w (BackPost w C) := by
  refine (decode_any w v (bytesE C) (.inl (Reads.of_owns ho)) (by have := bytesE_len hr hk; omega) (bytes8_chart C)).mono ?_
  rintro e w' ⟨t, ⟨h, _⟩ | ⟨c, R, h, rfl, _, hcl⟩⟩
  · rw [decE_ok hr hk] at h; cases h
  · rw [decE_ok hr hk] at h
    injection h with h
    subst h
    exact ⟨R, rfl, rowV_of hcl, t⟩
theorem lost_any (w : World) : Calls Try.prog 32 #[.slice none 0 0] w fun e w' => e = .returned (.tuple #[.slice none 0 0, .int .i64 7]) ∧ Turn (fun _ => False) w w' := by
  refine (decode_any w (.slice none 0 0) [] (.inl (.inl ⟨rfl, rfl⟩)) (by simp) (fun x hx => by simp at hx)).mono ?_
  rintro e w' ⟨t, ⟨_, rfl⟩ | ⟨c, R, h, _⟩⟩
  · exact ⟨rfl, t⟩
  · rw [dec_nil] at h; cases h
theorem build_atB (n : Int) (w : World) : (Instr.build 24 #[(0, .int .i64 n)]).run Try.prog w = .ok (.agg (El.at n).vals.toArray) w := by kernel_rfl
theorem exec_build_atB (ev : Operand → Value) (op : Oper) (x : Operand) (n : Int) (ho : op.op = .build 24 #[(0, x)]) (hx : ev x = .int .i64 n) (w : World) : (execOp ev op).run Try.prog w = .ok (.value (.agg (El.at n).vals.toArray)) w := by
  unfold execOp
  simp only [ho, List.map_toArray, List.map_cons, List.map_nil, hx, Sem.run_bind, Sem.run_pure, build_atB, Result.andThen_ok]
theorem one_own (w : World) (r : El) (base : Nat) (hb : base ≤ w.heap.size) : (w.alloc (.cells r.vals.toArray 24)).ownsRow base 24 10 (.slice (some ⟨w.heap.size, 0, none⟩) 1 1) 1 (elsV [r]) := by
  refine ⟨rfl, .inr ⟨w.heap.size, 1, r.vals.toArray, rfl, hb, heap_alloc_new w _, Nat.le_refl _, by decide, rfl, ?_⟩⟩
  rw [elsV_single]
  rfl
theorem one_row {w : World} {G : Nat} {r : El} (h : w.heap[G]? = some (.cells r.vals.toArray 24 (0, 0))) : RowV w (.slice (some ⟨G, 0, none⟩) 1 1) [r] := by
  refine .inr ⟨G, 0, 1, rfl, Nat.le_refl _, fun _ => (Array.getElem?_eq_some_iff.1 h).1, fun k hk => ?_⟩
  obtain rfl : k = 0 := by simpa using hk
  have := range_of h
  simpa using this
def b0 : El := El.nk 1 255
end Go.Proofs.Ytokjlhpkjebnkaa
