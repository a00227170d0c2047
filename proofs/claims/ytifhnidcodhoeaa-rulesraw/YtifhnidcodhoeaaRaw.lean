/- Own contracts: the law of any chart. No statement is proved here. -/
import Derived.Test.YtifhnidcodhoeaaUj
namespace Go.Proofs.Ytifhnidcodhoeaa
set_option maxRecDepth 100000
open Go.RowKit
set_option linter.unusedVariables false
set_option linter.unusedSimpArgs false

set_option maxHeartbeats 4000000 in
theorem raw_law (w : World) (v : Value) (l : List El) (hv : RowV w v l) (hb : l.length ≤ 9223372036854775807) : Calls Try.prog 3 #[v] w fun e w' => e = .returned (.bool true) ∧ Turn (fun _ => False) w w' := by
  obtain ⟨la, lc, rfl⟩ := hv.form
  obtain ⟨n, hn⟩ : ∃ n, l.length = n := ⟨_, rfl⟩
  rw [hn] at hv hb
  simp only [hn]
  have HN := Lib.hid hn
  clear hn
  have HV := Lib.hid hv
  clear hv
  go_enter Try.func3, Try.ntmps3
  go_wp2_with fail
  refine (awake_any w).mono ?_
  rintro r w2 ⟨rfl, t2⟩
  have T2 := Lib.hid t2
  clear t2
  by_cases hl : 45 < n
  · have d1 : decide ((45 : Int) < (n : Int)) = true := decide_eq_true (by omega)
    go_wp2_with fail
    refine (awake_any w2).mono ?_
    rintro r w3 ⟨rfl, t3⟩
    have T3 := Lib.hid (T2.out.trans t3 (fun _ _ => id))
    clear t3
    go_wp2_with fail
    go_ret
    exact ⟨rfl, T3.out⟩
  have d1 : decide ((45 : Int) < (n : Int)) = false := decide_eq_false (by omega)
  go_wp2_with fail
  refine (rcheck_any w2 _ l (HV.out.turn T2.out (fun _ _ => id)) (by rw [HN.out]; exact hb)).mono ?_
  obtain ⟨R1, hR1⟩ : ∃ R1, (checkE l).1 = R1 := ⟨_, rfl⟩
  obtain ⟨R2, hR2⟩ : ∃ R2, (checkE l).2 = R2 := ⟨_, rfl⟩
  rw [hR1, hR2]
  have HR1 := Lib.hid hR1
  have HR2 := Lib.hid hR2
  clear hR1 hR2
  rintro r w3 ⟨rfl, t3⟩
  have T3 := Lib.hid (T2.out.trans t3 (fun _ _ => id))
  clear t3
  obtain ⟨B, hB⟩ : ∃ B, w3.heap.size = B := ⟨_, rfl⟩
  obtain ⟨wz, hwz⟩ : ∃ wz, w3.alloc (.cells (fv 0 0).toArray 26) = wz := ⟨_, rfl⟩
  have hx3 : ∀ ev op, op.op = .alloc 26 → (execOp ev op).run Try.prog w3 = .ok (.value (.pointer (some ⟨B, 0, none⟩))) wz := fun ev op ho => by rw [← hwz, ← hB]; exact exec_zero26 ev op ho _
  have hb3 := box_alloc w3 26 (fv 0 0)
  rw [hwz] at hb3
  have hh3 := hb3.heap
  rw [hB] at hh3
  have HX3 := Lib.hid hx3
  have HB3 := Lib.hid hb3
  have HH3 := Lib.hid hh3
  have HE3 := Lib.hid hB
  clear hb3 hB hwz hx3 hh3
  go_wp2_with (with_reducible (show wpList _ _ _ (Oper.mk (some 3) (.alloc 26) _ _ _ _ :: _) _ _); refine still ?_)
  refine list_exec rfl _ _ (HX3.out _ _ rfl) ?_
  go_wp2_with (with_reducible (show wpList _ _ _ (Oper.mk none (.store 26 (.tmp 3) (.tmp 15)) _ _ _ _ :: _) _ _); refine still ?_)
  refine list_put wz B 26 (fv 0 0) (fv R1 R2) HH3.out rfl (fv_one _ _) fv_info rfl (.tmp 3) (.tmp 15) rfl rfl rfl (fun w4 hw4 tw4 => ?_)
  have Hw4 := Lib.hid (range_of hw4)
  have Uw4 := Lib.hid (HB3.out.turn.trans tw4 (fun q hq e => by have := HE3.out; omega))
  have Zw4 := Lib.hid (show B < w4.heap.size from (Array.getElem?_eq_some_iff.1 hw4).1)
  clear hw4 tw4
  have T4 := Lib.hid (T3.out.trans Uw4.out (fun _ _ => id))
  go_wp2_with fail
  refine (check_any w4 _ l (HV.out.turn T4.out (fun _ _ => id)) (by rw [HN.out]; omega)).mono ?_
  rw [HR1.out, HR2.out]
  rintro r w5 ⟨rfl, t5⟩
  have H5 := Lib.hid (rangeAt_turn Hw4.out t5 id)
  have T5 := Lib.hid (T4.out.trans t5 (fun _ _ => id))
  clear t5
  go_wp2_with (with_reducible (show wpList _ _ _ (Oper.mk (some 21) (.load 26 (.tmp 3)) _ _ _ _ :: _) _ _); refine still ?_)
  refine wpList_load_mid rfl 26 (.tmp 3) rfl B 0 rfl (fv R1 R2) _ H5.out Try.underlying26 rfl fv_info ?_
  go_wp2_with (with_reducible (show wpList _ _ _ (Oper.mk (some 24) (.build 26 _) _ _ _ _ :: _) _ _); refine still ?_)
  refine list_exec rfl _ _ (exec_fvB _ _ _ _ R1 R2 rfl rfl rfl _) ?_
  go_wp2_with (with_reducible (show wpList _ _ _ (Oper.mk (some 25) (.binOp .eql 26 _ _ 26) _ _ _ _ :: _) _ _); refine still ?_)
  refine list_exec rfl _ _ (exec_eql_fv1 _ _ rfl R1 R2 _ rfl rfl) ?_
  go_wp2_with fail
  go_ret
  exact ⟨rfl, T5.out⟩

end Go.Proofs.Ytifhnidcodhoeaa
