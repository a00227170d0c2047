/- Own contracts: rule 5. No statement is proved here. -/
import Derived.Test.YtifhnidcodhoeaaUc
namespace Go.Proofs.Ytifhnidcodhoeaa
set_option maxRecDepth 100000
open Go.RowKit
set_option linter.unusedVariables false
set_option linter.unusedSimpArgs false

set_option maxHeartbeats 4000000 in
theorem ringed_any (w : World) (v : Value) (l : List El) (x : El) (hv : RowV w v l) (hri : Rises l) (hb : l.length ≤ 1000) : Calls Try.prog 28 #[v, .agg x.vals.toArray] w fun r w' => r = .returned (.bool (b5 l x)) ∧ Turn (fun _ => False) w w' := by
  have HRI := Lib.hid hri
  clear hri
  obtain ⟨la, lc, rfl⟩ := hv.form
  obtain ⟨n, hn⟩ : ∃ n, l.length = n := ⟨_, rfl⟩
  rw [hn] at hv hb
  simp only [hn]
  have HN := Lib.hid hn
  clear hn
  have hbx := box_alloc w 35 x.vals
  obtain ⟨X, hX⟩ : ∃ X, w.heap.size = X := ⟨_, rfl⟩
  obtain ⟨w1, hw1⟩ : ∃ w1, w.alloc (.cells x.vals.toArray 35) = w1 := ⟨_, rfl⟩
  rw [hw1] at hbx
  have hr := hbx.range
  rw [hX] at hr
  obtain ⟨c0, c1, c2, c3, c4, c5, c6, c7, c8, c9⟩ := cellsE hr
  simp only [Nat.zero_add] at c0 c1 c2 c3 c4 c5 c6 c7 c8 c9
  have T1 := Lib.hid hbx.turn
  have HR := Lib.hid hr
  have HV1 := Lib.hid (hv.turn hbx.turn (fun _ _ => id))
  clear hbx hr hv
  go_enter Try.func28, Try.ntmps28
  go_wp2_with fail
  go_loopw [5, 12] (fun av iv wr => ∃ (k : Nat) (a : Int), k ≤ n ∧ iv = .int .i64 (k : Int) ∧ av = .int .i64 a ∧ b5 l x = ringB l x.id (n - k) a ∧ Turn (fun _ => False) w1 wr) (fun _ iv _ => n - (intOf iv).toNat)
  case atStart => exact ⟨0, x.par, Nat.zero_le _, rfl, rfl, by rw [b5, HN.out]; rfl, Turn.refl _ _⟩
  case round =>
    obtain ⟨k, a, hk, rfl, rfl, hring, htr⟩ := hrel
    have HTR := Lib.hid htr
    obtain ⟨e0, e1, e2, e3, e4, e5, e6, e7, e8, e9⟩ := cellsE (rangeAt_turn HR.out htr id)
    simp only [Nat.zero_add] at e0
    clear e1 e2 e3 e4 e5 e6 e7 e8 e9 htr
    by_cases hlt : k < n
    · have dk : decide ((k : Int) < (n : Int)) = true := decide_eq_true (by omega)
      by_cases ha : a = x.id
      · have d1 : (a == x.id) = true := by simpa using ha
        have HP := Lib.hid (hring.trans (ring_hit (by omega) ha))
        have T9 := Lib.hid (T1.out.trans HTR.out (fun _ _ => id))
        clear hring ha
        go_wp2_with fail
        go_ret
        exact ⟨by rw [HP.out]; rfl, T9.out⟩
      · have d1 : (a == x.id) = false := by simpa using ha
        have HA := Lib.hid ha
        have HG := Lib.hid hring
        clear hring ha
        go_wp2_with fail
        refine (find_at_any wr _ l a (HV1.out.turn HTR.out (fun _ _ => id)) HRI.out (by rw [HN.out]; exact hb)).mono ?_
        rintro r w2 ⟨⟨y, hy, rfl⟩ | ⟨hy, rfl⟩, t2⟩
        · have HY := Lib.hid hy
          have HT2 := Lib.hid t2
          clear t2 hy
          have hbb := box_alloc w2 35 el0.vals
          obtain ⟨B, hB⟩ : ∃ B, w2.heap.size = B := ⟨_, rfl⟩
          obtain ⟨wz, hwz⟩ : ∃ wz, w2.alloc (.cells el0.vals.toArray 35) = wz := ⟨_, rfl⟩
          have hx0 : ∀ ev op, op.op = .alloc 35 → (execOp ev op).run Try.prog w2 = .ok (.value (.pointer (some ⟨B, 0, none⟩))) wz := fun ev op ho => by rw [← hwz, ← hB]; exact exec_zero24 ev op ho _
          rw [hwz] at hbb
          have hhh := hbb.heap
          rw [hB] at hhh
          have HX0 := Lib.hid hx0
          have HBB := Lib.hid hbb
          have HHB := Lib.hid hhh
          have HBE := Lib.hid hB
          clear hbb hB hwz hx0 hhh
          go_wp2_with (with_reducible (show wpList _ _ _ (Oper.mk (some 6) (.alloc 35) _ _ _ _ :: _) _ _); refine still ?_)
          refine list_exec rfl _ _ (HX0.out _ _ rfl) ?_
          go_wp2_with (with_reducible (show wpList _ _ _ (Oper.mk none (.store 35 (.tmp 6) (.tmp 22)) _ _ _ _ :: _) _ _); refine still ?_)
          refine list_put wz B 35 el0.vals y.vals HHB.out rfl y.vals_one el_info rfl (.tmp 6) (.tmp 22) rfl rfl rfl (fun w3 h3 t3 => ?_)
          have T3 := Lib.hid (HTR.out.trans (HT2.out.trans (HBB.out.turn.trans t3 (fun q hq e => by have := HBE.out; omega)) (fun _ _ => id)) (fun _ _ => id))
          have c2' : w3.cell? ⟨B, 2, none⟩ = some (.int .i64 y.par) := by rw [cell_of_row w3 B 2 _ 35 (0, 0) h3]; rfl
          clear h3 t3
          go_wp2_with fail
          go_roundw
          case rel => exact ⟨k + 1, y.par, by omega, by go_num, rfl, by rw [HG.out, show n - k = (n - (k + 1)) + 1 from by omega, ring_on HA.out HY.out], T3.out⟩
          case measure => simp [intOf]; omega
        · have HY := Lib.hid hy
          have HT2 := Lib.hid t2
          clear t2 hy
          have hbb := box_alloc w2 35 el0.vals
          obtain ⟨B, hB⟩ : ∃ B, w2.heap.size = B := ⟨_, rfl⟩
          obtain ⟨wz, hwz⟩ : ∃ wz, w2.alloc (.cells el0.vals.toArray 35) = wz := ⟨_, rfl⟩
          have hx0 : ∀ ev op, op.op = .alloc 35 → (execOp ev op).run Try.prog w2 = .ok (.value (.pointer (some ⟨B, 0, none⟩))) wz := fun ev op ho => by rw [← hwz, ← hB]; exact exec_zero24 ev op ho _
          rw [hwz] at hbb
          have hhh := hbb.heap
          rw [hB] at hhh
          have HX0 := Lib.hid hx0
          have HBB := Lib.hid hbb
          have HHB := Lib.hid hhh
          have HBE := Lib.hid hB
          clear hbb hB hwz hx0 hhh
          go_wp2_with (with_reducible (show wpList _ _ _ (Oper.mk (some 6) (.alloc 35) _ _ _ _ :: _) _ _); refine still ?_)
          refine list_exec rfl _ _ (HX0.out _ _ rfl) ?_
          go_wp2_with (with_reducible (show wpList _ _ _ (Oper.mk none (.store 35 (.tmp 6) (.tmp 22)) _ _ _ _ :: _) _ _); refine still ?_)
          refine list_put wz B 35 el0.vals el0.vals HHB.out rfl el0.vals_one el_info rfl (.tmp 6) (.tmp 22) rfl rfl rfl (fun w3 h3 t3 => ?_)
          have T3 := Lib.hid (HTR.out.trans (HT2.out.trans (HBB.out.turn.trans t3 (fun q hq e => by have := HBE.out; omega)) (fun _ _ => id)) (fun _ _ => id))
          have c2' : w3.cell? ⟨B, 2, none⟩ = some (.int .i64 el0.par) := by rw [cell_of_row w3 B 2 _ 35 (0, 0) h3]; rfl
          clear h3 t3
          have HE := Lib.hid (ring_end (id := x.id) (m := n - k) HA.out HY.out)
          have T9 := Lib.hid (T1.out.trans T3.out (fun _ _ => id))
          go_wp2_with fail
          go_ret
          exact ⟨by rw [HG.out, HE.out]; rfl, T9.out⟩
    · have dk : decide ((k : Int) < (n : Int)) = false := decide_eq_false (by omega)
      have HG := Lib.hid (show b5 l x = false from by rw [hring, show n - k = 0 from by omega]; rfl)
      have T9 := Lib.hid (T1.out.trans HTR.out (fun _ _ => id))
      clear hring
      go_wp2_with fail
      go_ret
      exact ⟨by rw [HG.out]; rfl, T9.out⟩

end Go.Proofs.Ytifhnidcodhoeaa
