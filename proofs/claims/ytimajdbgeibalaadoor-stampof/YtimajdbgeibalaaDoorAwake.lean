/- Own contracts: the laws' first look. No statement is proved here. -/
import Derived.Test.YtimajdbgeibalaaDoorAbc
import Derived.Lib.SlBytesConst
namespace Go.Proofs.YtimajdbgeibalaaDoor
open Go.RowKit
set_option linter.unusedVariables false
set_option linter.unusedSimpArgs false

/-- Both tables hold what the text lays. -/
def Tables (w : World) : Prop := Roots w rootsL ∧ w.rangeAt 0 0 firstE.vals
theorem Tables.turn {w w' : World} (h : Tables w) (ht : Turn (fun _ => False) w w') : Tables w' := ⟨h.1.turn ht, rangeAt_turn h.2 ht id⟩

theorem abc_reads (w : World) : Reads (w.alloc (.cells #[.int .u8 97, .int .u8 98, .int .u8 99] 5 (3, 4))) (.slice (some ⟨w.heap.size, 0, none⟩) 3 3) [97, 98, 99] := by
  refine .inr ⟨w.heap.size, 0, 3, rfl, by decide, fun i hi => ?_⟩
  have h2 := heap_alloc_new w (.cells #[.int .u8 97, .int .u8 98, .int .u8 99] 5 (3, 4))
  rw [Nat.zero_add, cell_of_row _ _ _ _ 5 (3, 4) h2]
  match i, hi with
  | 0, _ => rfl
  | 1, _ => rfl
  | 2, _ => rfl
theorem abc_bytes : ∀ x ∈ abcK, 0 ≤ x ∧ x < 256 := by decide
theorem abc_str : strOfNums abcT = ⟨#[98, 97, 55, 56, 49, 54, 98, 102, 56, 102, 48, 49, 99, 102, 101, 97, 52, 49, 52, 49, 52, 48, 100, 101, 53, 100, 97, 101, 50, 50, 50, 51, 98, 48, 48, 51, 54, 49, 97, 51, 57, 54, 49, 55, 55, 97, 57, 99, 98, 52, 49, 48, 102, 102, 54, 49, 102, 50, 48, 48, 49, 53, 97, 100]⟩ := by kernel_rfl

theorem conv_abc (w : World) : (convert 22 22 (.slice (some ⟨w.heap.size, 0, none⟩) 3 3)).run Tryd.prog (w.alloc (.cells #[.int .u8 97, .int .u8 98, .int .u8 99] 5)) = .ok (.slice (some ⟨w.heap.size, 0, none⟩) 3 3) (w.alloc (.cells #[.int .u8 97, .int .u8 98, .int .u8 99] 5 (3, 4))) :=
  Lib.run_convert_bytes_const w 22 5 _ 3 3 Tryd.underlying22 Tryd.underlying5
theorem abc_eq : ((ByteArray.mk #[98, 97, 55, 56, 49, 54, 98, 102, 56, 102, 48, 49, 99, 102, 101, 97, 52, 49, 52, 49, 52, 48, 100, 101, 53, 100, 97, 101, 50, 50, 50, 51, 98, 48, 48, 51, 54, 49, 97, 51, 57, 54, 49, 55, 55, 97, 57, 99, 98, 52, 49, 48, 102, 102, 54, 49, 102, 50, 48, 48, 49, 53, 97, 100]).extract 0 8).toList = [98, 97, 55, 56, 49, 54, 98, 102] := by rw [ByteArray.toList_eq]; kernel_rfl

set_option maxHeartbeats 1000000 in
set_option maxRecDepth 100000 in
theorem awake_any (w : World) (ht : Tables w) : Calls Tryd.prog 9 #[] w fun e w' => e = .returned (.bool true) ∧ Turn (fun _ => False) w w' := by
  have HT := Lib.hid ht
  have hcv := conv_abc w
  clear ht
  go_enter Tryd.func9, Tryd.ntmps9
  go_wp2_with fail
  have T0 : Turn (fun _ => False) w (w.alloc (.cells #[.int .u8 97, .int .u8 98, .int .u8 99] 5 (3, 4))) := (Turn.refl _ w).alloc _
  refine (of_any _ [97, 98, 99] rootsL firstE _ (abc_reads w) (by decide) (HT.out.turn T0).1 (HT.out.turn T0).2).mono ?_
  rintro e w1 ⟨rfl, t1⟩
  have T1 := T0.trans t1 (fun _ _ => id)
  rw [abc_key]
  clear T0 t1
  go_wp2_with fail
  refine (text_any abcK _ rfl abc_bytes).mono ?_
  rintro e w2 ⟨rfl, t2⟩
  have T2 := T1.trans t2 (fun _ _ => id)
  rw [abc_text]
  clear T1 t2 hcv
  have hcv := conv_abc w2
  go_wp2_with fail
  have T3 := T2.alloc (.cells #[.int .u8 97, .int .u8 98, .int .u8 99] 5 (3, 4))
  refine (of_any _ [97, 98, 99] rootsL firstE _ (abc_reads w2) (by decide) (HT.out.turn T3).1 (HT.out.turn T3).2).mono ?_
  rintro e w4 ⟨rfl, t4⟩
  have T4 := T3.trans t4 (fun _ _ => id)
  rw [abc_key]
  clear T3 t4
  go_wp2_with fail
  refine (text_any abcK _ rfl abc_bytes).mono ?_
  rintro e w5 ⟨rfl, t5⟩
  have T5 := T4.trans t5 (fun _ _ => id)
  rw [abc_text, abc_str]
  clear T4 t5 T2
  go_wp2
  go_ret
  refine ⟨?_, T5⟩
  simp only [abc_eq]
  rfl
end Go.Proofs.YtimajdbgeibalaaDoor
