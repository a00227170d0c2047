/- Own contracts: Check. No statement is proved here. -/
import Derived.Test.YtifhnidcodhoeaaUh
namespace Go.Proofs.Ytifhnidcodhoeaa
set_option maxRecDepth 100000
open Go.RowKit
set_option linter.unusedVariables false
set_option linter.unusedSimpArgs false

def fv (a b : Int) : List Value := [.int .i64 a, .int .i64 b]
theorem fv_one (a b : Int) : ∀ v ∈ fv a b, v.oneCell' = true := fun v hv => by
  simp only [fv, List.mem_cons, List.not_mem_nil, or_false] at hv
  rcases hv with rfl | rfl <;> rfl
theorem fv_info : (Try.prog.info? 26).map (·.size) = some 2 := by kernel_rfl
theorem fv_zero (w : World) : (zeroValue 26).run Try.prog w = .ok (.agg (fv 0 0).toArray) w := by kernel_rfl
theorem exec_zero26 (ev : Operand → Value) (op : Oper) (ho : op.op = .alloc 26) (w : World) : (execOp ev op).run Try.prog w = .ok (.value (.pointer (some ⟨w.heap.size, 0, none⟩))) (w.alloc (.cells (fv 0 0).toArray 26)) := by
  unfold execOp
  simp only [ho, Sem.run_bind, fv_zero, Result.andThen_ok]
  rfl
theorem fv_build0 (w : World) : (Instr.build 26 #[]).run Try.prog w = .ok (.agg (fv 0 0).toArray) w := by kernel_rfl
theorem fv_buildA (a : Int) (w : World) : (Instr.build 26 #[(0, .int .i64 a)]).run Try.prog w = .ok (.agg (fv a 0).toArray) w := by kernel_rfl
theorem fv_buildB (a b : Int) (w : World) : (Instr.build 26 #[(0, .int .i64 a), (1, .int .i64 b)]).run Try.prog w = .ok (.agg (fv a b).toArray) w := by kernel_rfl
theorem exec_fv0 (ev : Operand → Value) (op : Oper) (ho : op.op = .build 26 #[]) (w : World) : (execOp ev op).run Try.prog w = .ok (.value (.agg (fv 0 0).toArray)) w := by
  unfold execOp
  simp only [ho, List.map_toArray, List.map_nil, Sem.run_bind, Sem.run_pure, fv_build0, Result.andThen_ok]
theorem exec_fvA (ev : Operand → Value) (op : Oper) (x : Operand) (a : Int) (ho : op.op = .build 26 #[(0, x)]) (hx : ev x = .int .i64 a) (w : World) : (execOp ev op).run Try.prog w = .ok (.value (.agg (fv a 0).toArray)) w := by
  unfold execOp
  simp only [ho, List.map_toArray, List.map_cons, List.map_nil, hx, Sem.run_bind, Sem.run_pure, fv_buildA, Result.andThen_ok]
theorem exec_fvB (ev : Operand → Value) (op : Oper) (x y : Operand) (a b : Int) (ho : op.op = .build 26 #[(0, x), (1, y)]) (hx : ev x = .int .i64 a) (hy : ev y = .int .i64 b) (w : World) : (execOp ev op).run Try.prog w = .ok (.value (.agg (fv a b).toArray)) w := by
  unfold execOp
  simp only [ho, List.map_toArray, List.map_cons, List.map_nil, hx, hy, Sem.run_bind, Sem.run_pure, fv_buildB, Result.andThen_ok]
set_option maxHeartbeats 4000000 in
theorem rcheck_any (w : World) (v : Value) (l : List El) (hv : RowV w v l) (hb : l.length ≤ 9223372036854775807) : Calls Try.prog 10 #[v] w fun e w' => e = .returned (.agg (fv (checkE l).1 (checkE l).2).toArray) ∧ Turn (fun _ => False) w w' := by
  obtain ⟨la, lc, rfl⟩ := hv.form
  obtain ⟨n, hn⟩ : ∃ n, l.length = n := ⟨_, rfl⟩
  rw [hn] at hv hb
  simp only [hn]
  have HN := Lib.hid hn
  clear hn
  have hby := box_alloc w 26 (fv 0 0)
  obtain ⟨Y, hY⟩ : ∃ Y, w.heap.size = Y := ⟨_, rfl⟩
  obtain ⟨w1, hw1⟩ : ∃ w1, w.alloc (.cells (fv 0 0).toArray 26) = w1 := ⟨_, rfl⟩
  rw [hw1] at hby
  have hx0 : ∀ ev op, op.op = .alloc 26 → (execOp ev op).run Try.prog w = .ok (.value (.pointer (some ⟨Y, 0, none⟩))) w1 := fun ev op ho => by rw [← hw1, ← hY]; exact exec_zero26 ev op ho _
  have hyh := hby.heap
  rw [hY] at hyh
  have HX0 := Lib.hid hx0
  have HYH := Lib.hid hyh
  have HYE := Lib.hid hY
  have HSZ := Lib.hid hby.size
  have T1 := Lib.hid hby.turn
  have HV := Lib.hid (hv.turn hby.turn (fun _ _ => id))
  clear hx0 hyh hY hw1 hby hv
  go_enter Try.func10, Try.ntmps10
  go_wp2_with (with_reducible (show wpList _ _ _ (Oper.mk (some 2) (.alloc 26) _ _ _ _ :: _) _ _); refine still ?_)
  refine list_exec rfl _ _ (HX0.out _ _ rfl) ?_
  go_wp2_with fail
  refine (right_any w1 _ l HV.out (by rw [HN.out]; omega)).mono ?_
  rintro r w2 ⟨rfl, t2⟩
  have T2 := Lib.hid t2
  clear t2
  cases hr : rightE l
  · have HR := Lib.hid (show checkE l = (1, 0) from by rw [checkE, hr]; rfl)
    clear hr
    go_wp2_with (with_reducible (show wpList _ _ _ (Oper.mk (some 9) (.build 26 _) _ _ _ _ :: _) _ _); refine still ?_)
    refine list_exec rfl _ _ (exec_fvA _ _ _ 1 rfl rfl _) ?_
    go_wp2_with (with_reducible (show wpList _ _ _ (Oper.mk none (.store 26 (.tmp 2) (.tmp 9)) _ _ _ _ :: _) _ _); refine still ?_)
    refine list_put w2 Y 26 (fv 0 0) (fv 1 0) ((T2.out.block Y (by have := HYE.out; have := HSZ.out; omega) id).trans HYH.out) rfl (fv_one _ _) fv_info rfl (.tmp 2) (.tmp 9) rfl rfl rfl (fun w7 h7 t7 => ?_)
    have H7 := Lib.hid h7
    have T7 := Lib.hid ((T1.out.trans T2.out (fun _ _ => id)).trans t7 (fun q hq e => by have := HYE.out; omega))
    clear h7 t7
    go_wp2_with fail
    refine bodyPost_ret (run_cell Try.f10 2 26 (by kernel_rfl) Y _ w7 (range_of H7.out) Try.underlying26 rfl fv_info _ rfl) rfl ?_
    exact ⟨by rw [HR.out], T7.out⟩
  have hR := show checkE l = checkN l 7 from by rw [checkE, hr]; rfl
  obtain ⟨hl40, hris, hfine⟩ := right_iff.1 hr
  rw [HN.out] at hl40
  have HR := Lib.hid hR
  have HRI := Lib.hid hris
  have HPS := Lib.hid (show ∀ x ∈ l, 1 ≤ x.id from fun x hx => (hfine x hx).id.1)
  clear hr hR hris hfine hb
  go_wp2_with fail
  go_loopw [3] (fun rv wr => ∃ m : Nat, m ≤ 7 ∧ rv = .int .i64 (9 - (m : Int)) ∧ checkE l = checkN l m ∧ Turn (fun _ => False) w1 wr) (fun rv _ => (9 - intOf rv).toNat)
  case atStart => exact ⟨7, Nat.le_refl _, rfl, HR.out, T2.out⟩
  case round =>
    obtain ⟨m, hm, rfl, hch, htr⟩ := hrel
    have HC := Lib.hid hch
    have HT := Lib.hid htr
    clear hch htr
    by_cases h0 : m = 0
    · subst h0
      have dk : decide ((9 : Int) - ((0 : Nat) : Int) ≤ 8) = false := by decide
      go_wp2_with (with_reducible (show wpList _ _ _ (Oper.mk (some 29) (.build 26 _) _ _ _ _ :: _) _ _); refine still ?_)
      refine list_exec rfl _ _ (exec_fv0 _ _ rfl _) ?_
      go_wp2_with (with_reducible (show wpList _ _ _ (Oper.mk none (.store 26 (.tmp 2) (.tmp 29)) _ _ _ _ :: _) _ _); refine still ?_)
      refine list_put wr Y 26 (fv 0 0) (fv 0 0) ((HT.out.block Y (by have := HYE.out; have := HSZ.out; omega) id).trans HYH.out) rfl (fv_one _ _) fv_info rfl (.tmp 2) (.tmp 29) rfl rfl rfl (fun w7 h7 t7 => ?_)
      have H7 := Lib.hid h7
      have T7 := Lib.hid ((T1.out.trans HT.out (fun _ _ => id)).trans t7 (fun q hq e => by have := HYE.out; omega))
      clear h7 t7
      go_wp2_with fail
      refine bodyPost_ret (run_cell Try.f10 2 26 (by kernel_rfl) Y _ w7 (range_of H7.out) Try.underlying26 rfl fv_info _ rfl) rfl ?_
      exact ⟨by rw [HC.out]; rfl, T7.out⟩
    · obtain ⟨q, rfl⟩ : ∃ q, m = q + 1 := ⟨m - 1, by omega⟩
      obtain ⟨R, hR⟩ : ∃ R : Int, (9 : Int) - ((q + 1 : Nat) : Int) = R := ⟨_, rfl⟩
      have HB := Lib.hid (show R = 8 - (q : Int) ∧ 2 ≤ R ∧ R ≤ 8 from by omega)
      have dk : decide (R ≤ 8) = true := decide_eq_true (by omega)
      rw [hR]
      clear hR h0
      have hw : wrap64 (R + 1) = R + 1 := by have := HB.out; unfold wrap64; omega
      go_wp2_with fail
      go_loopw [16] (fun iv wr => ∃ k : Nat, k ≤ n ∧ iv = .int .i64 (k : Int) ∧ (∀ j, j < k → breaksB l (l.getD j el0) R = false) ∧ Turn (fun _ => False) w1 wr) (fun iv _ => n - (intOf iv).toNat)
      case atStart => exact ⟨0, Nat.zero_le _, rfl, fun j hj => by omega, HT.out⟩
      case round =>
        obtain ⟨k, hk, rfl, hbef, htr⟩ := hrel
        have HBEF := Lib.hid hbef
        have HTR := Lib.hid htr
        clear hbef htr
        by_cases hlt : k < n
        · obtain ⟨b, o, rfl, hc, hs1⟩ := (HV.out.turn HTR.out (fun _ _ => id)).one HN.out k hlt
          have gi : (0 : Int) ≤ (k : Int) ∧ (k : Int) < (n : Int) := by omega
          have dk2 : decide ((k : Int) < (n : Int)) = true := decide_eq_true (by omega)
          obtain ⟨x, hx⟩ : ∃ x, l.getD k el0 = x := ⟨_, rfl⟩
          rw [hx] at hs1
          have HX := Lib.hid hx
          have HS := Lib.hid hs1
          clear hx hs1
          have hbb := box_alloc wr 35 el0.vals
          obtain ⟨B, hB⟩ : ∃ B, wr.heap.size = B := ⟨_, rfl⟩
          obtain ⟨wz, hwz⟩ : ∃ wz, wr.alloc (.cells el0.vals.toArray 35) = wz := ⟨_, rfl⟩
          have hx0 : ∀ ev op, op.op = .alloc 35 → (execOp ev op).run Try.prog wr = .ok (.value (.pointer (some ⟨B, 0, none⟩))) wz := fun ev op ho => by rw [← hwz, ← hB]; exact exec_zero24 ev op ho _
          rw [hwz] at hbb
          have hhh := hbb.heap
          rw [hB] at hhh
          have HX1 := Lib.hid hx0
          have HBB := Lib.hid hbb
          have HHB := Lib.hid hhh
          have HBE := Lib.hid hB
          clear hbb hB hwz hx0 hhh
          go_wp2_with (with_reducible (show wpList _ _ _ (Oper.mk (some 19) (.load 35 (.tmp 18)) _ _ _ _ :: _) _ _); refine still ?_)
          refine wpList_load_mid rfl 35 (.tmp 18) rfl b (o + k * 10) rfl x.vals _ HS.out Try.underlying35 rfl el_info ?_
          go_wp2_with (with_reducible (show wpList _ _ _ (Oper.mk (some 5) (.alloc 35) _ _ _ _ :: _) _ _); refine still ?_)
          refine list_exec rfl _ _ (HX1.out _ _ rfl) ?_
          go_wp2_with (with_reducible (show wpList _ _ _ (Oper.mk none (.store 35 (.tmp 5) (.tmp 19)) _ _ _ _ :: _) _ _); refine still ?_)
          refine list_put wz B 35 el0.vals x.vals HHB.out rfl x.vals_one el_info rfl (.tmp 5) (.tmp 19) rfl rfl rfl (fun w3 h3 t3 => ?_)
          have H3 := Lib.hid (range_of h3)
          have T3 := Lib.hid (HTR.out.trans (HBB.out.turn.trans t3 (fun q hq e => by have := HBE.out; omega)) (fun _ _ => id))
          clear h3 t3
          go_wp2_with (with_reducible (show wpList _ _ _ (Oper.mk (some 21) (.load 35 (.tmp 5)) _ _ _ _ :: _) _ _); refine still ?_)
          refine wpList_load_mid rfl 35 (.tmp 5) rfl B 0 rfl x.vals _ H3.out Try.underlying35 rfl el_info ?_
          go_wp2_with fail
          refine (rbreaks_any w3 _ l x R HB.out.2 (HV.out.turn T3.out (fun _ _ => id)) HRI.out HPS.out (by rw [HN.out]; omega)).mono ?_
          rintro r w5 ⟨rfl, t5⟩
          have T5 := Lib.hid (T3.out.trans t5 (fun _ _ => id))
          have c0 := (cellsE (rangeAt_turn H3.out t5 id)).c0
          simp only [Nat.zero_add] at c0
          clear t5
          cases hbr : breaksB l x R
          · have HBR := Lib.hid hbr
            clear hbr
            go_wp2_with fail
            go_roundw
            case rel => exact ⟨k + 1, by omega, by go_num, fun j hj => by
              by_cases e : j = k
              · subst e; rw [HX.out]; exact HBR.out
              · exact HBEF.out j (by omega), T5.out⟩
            case measure => simp [intOf]; omega
          · have HBR := Lib.hid hbr
            clear hbr
            have HF := Lib.hid (find_at (l := l) (p := fun x => breaksB l x R) (k := k) (by rw [HN.out]; exact hlt) (by rw [HX.out]; exact HBR.out) HBEF.out)
            have hG : checkE l = (R, x.id) := by
              have h1 := HF.out
              rw [HX.out] at h1
              rw [HC.out, checkN, ← HB.out.1, h1]
            have HG := Lib.hid hG
            clear hG
            go_wp2_with (with_reducible (show wpList _ _ _ (Oper.mk (some 27) (.build 26 _) _ _ _ _ :: _) _ _); refine still ?_)
            refine list_exec rfl _ _ (exec_fvB _ _ _ _ R x.id rfl rfl rfl _) ?_
            go_wp2_with (with_reducible (show wpList _ _ _ (Oper.mk none (.store 26 (.tmp 2) (.tmp 27)) _ _ _ _ :: _) _ _); refine still ?_)
            refine list_put w5 Y 26 (fv 0 0) (fv R x.id) ((T5.out.block Y (by have := HYE.out; have := HSZ.out; omega) id).trans HYH.out) rfl (fv_one _ _) fv_info rfl (.tmp 2) (.tmp 27) rfl rfl rfl (fun w7 h7 t7 => ?_)
            have H7 := Lib.hid h7
            have T7 := Lib.hid ((T1.out.trans T5.out (fun _ _ => id)).trans t7 (fun q hq e => by have := HYE.out; omega))
            clear h7 t7
            go_wp2_with fail
            refine bodyPost_ret (run_cell Try.f10 2 26 (by kernel_rfl) Y _ w7 (range_of H7.out) Try.underlying26 rfl fv_info _ rfl) rfl ?_
            exact ⟨by rw [HG.out], T7.out⟩
        · have dk2 : decide ((k : Int) < (n : Int)) = false := decide_eq_false (by omega)
          have HF := Lib.hid (find_none (l := l) (p := fun x => breaksB l x R) (fun j hj => HBEF.out j (by rw [HN.out] at hj; omega)))
          go_wp2_with fail
          go_roundw
          case rel => exact ⟨q, by omega, congrArg (Value.int _) (by have := HB.out; first | omega | (rw [hw]; omega)), by rw [HC.out, checkN, ← HB.out.1, HF.out], HTR.out⟩
          case measure => have := HB.out; simp [intOf, hw]; omega

end Go.Proofs.Ytifhnidcodhoeaa
