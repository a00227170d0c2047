/- Own contracts: SortFunc of one element; the keys of a shelf with one object. No statement is proved here. -/
import Derived.Test.YtboofamenpcnhaaGreatDoorR01
namespace Go.Proofs.YtboofamenpcnhaaGreatDoor
set_option maxRecDepth 100000
open Go.RowKit Go.Shelf
set_option linter.unusedVariables false
set_option linter.unusedSimpArgs false

set_option maxHeartbeats 1600000 in
theorem len64_one (w : World) : Calls Tryz.prog 96 #[.int .u64 1] w fun e w' => e = .returned (.int .i64 1) ∧ w' = w := by
  go_enter Tryz.func96, Tryz.ntmps96
  go_wp2_with fail
  go_ret
  exact ⟨by kernel_rfl, rfl⟩
theorem len_one (w : World) : Calls Tryz.prog 67 #[.int .u64 1] w fun e w' => e = .returned (.int .i64 1) ∧ w' = w := by
  go_enter Tryz.func67, Tryz.ntmps67
  go_wp2_with fail
  refine (len64_one w).mono ?_
  rintro e w1 ⟨rfl, rfl⟩
  go_wp2_with fail
  go_ret
  exact ⟨rfl, rfl⟩
theorem ins_one (a : Option Addr) (cp : Nat) (c : Value) (w : World) : Calls Tryz.prog 87 #[.slice a 1 cp, .int .i64 0, .int .i64 1, c] w fun e w' => (∃ v, e = .returned v) ∧ w' = w := by
  go_enter Tryz.func87, Tryz.ntmps87
  go_wp2_with fail
  refine wp_loop_once ?_
  go_wp2_with fail
  go_end0
  exact ⟨⟨_, rfl⟩, rfl⟩
set_option maxHeartbeats 1600000 in
theorem pdq_one (a : Option Addr) (cp : Nat) (c : Value) (w : World) : Calls Tryz.prog 66 #[.slice a 1 cp, .int .i64 0, .int .i64 1, .int .i64 1, c] w fun e w' => (∃ v, e = .returned v) ∧ w' = w := by
  go_enter Tryz.func66, Tryz.ntmps66
  go_wp2_with fail
  refine wp_loop_once ?_
  go_wp2_with fail
  refine (ins_one a cp c w).mono ?_
  rintro e w1 ⟨⟨v, rfl⟩, h9⟩
  rw [h9]
  go_wp2_with fail
  refine bodyPost_ret (results_none rfl _ _ _) rfl ?_
  exact ⟨⟨_, rfl⟩, rfl⟩
theorem sort_one (a : Option Addr) (cp : Nat) (c : Value) (w : World) : Calls Tryz.prog 34 #[.slice a 1 cp, c] w fun e w' => (∃ v, e = .returned v) ∧ w' = w := by
  go_enter Tryz.func34, Tryz.ntmps34
  go_wp2_with fail
  refine (len_one w).mono ?_
  rintro e w1 ⟨rfl, h9⟩
  rw [h9]
  clear h9 w1
  go_wp2_with fail
  refine (pdq_one a cp c w).mono ?_
  rintro e w1 ⟨⟨v, rfl⟩, h9⟩
  rw [h9]
  clear h9 w1
  go_wp2_with fail
  go_end0
  exact ⟨⟨_, rfl⟩, rfl⟩
theorem sorts_one (sl : List Ob) (hg : SGood sl) (h1 : nOb sl hg = 1) : Sorts sl hg (fun ys => ys = keysV (objsTo sl hg 48)) := fun W B lv hrow => by
  obtain ⟨a, c, rfl⟩ := row_form36 hrow
  have h1' : (objsTo sl hg 48).length = 1 := h1
  rw [h1'] at hrow ⊢
  refine (sort_one a c _ W).mono ?_
  rintro e W' ⟨hv, h9⟩
  rw [h9]
  exact ⟨hv, _, rfl, hrow, Turn.refl _ _⟩
/-- The keys of a shelf with one object. -/
theorem keys_one (w : World) (S J M : Nat) (sl : List Ob) (hs : ShAt w S J M sl) (h1 : nOb sl hs.sgood = 1) : Calls Tryz.prog 13 #[.pointer (some ⟨S, 0, none⟩)] w fun e w' => ∃ a c, e = .returned (.slice a 1 c) ∧ Turn (fun _ => False) w w' := by
  refine (callsIn_wide.1 (keyss_in w S J M sl hs _ (sorts_one sl hs.sgood h1))).mono ?_
  rintro e w' ⟨lv, ys, rfl, _, hrow, t⟩
  rw [h1] at hrow
  obtain ⟨a, c, rfl⟩ := row_form36 hrow
  exact ⟨a, c, rfl, t⟩
end Go.Proofs.YtboofamenpcnhaaGreatDoor
