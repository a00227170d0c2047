/- Own texts, packed: Ez, Ce. No statement is proved here. -/
import Derived.Test.YtkciaafkhpjnaaaQ20
import Derived.Deep.RegionHeld3
import Derived.Test.YtkciaafkhpjnaaaQ09
import Derived.Test.YtkciaafkhpjnaaaQ06
import Derived.Lib.AppendZeros
namespace Go.Proofs.Ytkciaafkhpjnaaa
set_option maxRecDepth 100000
open Go.RowKit
set_option linter.unusedVariables false
set_option linter.unusedSimpArgs false

section
variable {w : World} {B : Nat} {x : Ed}
end
theorem wp_mid {P : Program} {o : Oper} {a : Act} {K : Act → World → Prop} {Q : Exit → Act → World → Prop} (w : World) (B j : Nat) (T U : TypeId) (zs cs : List Value) (hh : w.heap[B]? = some (.cells zs.toArray T (0, 0))) (hl : j + cs.length ≤ zs.length) (h1 : ∀ v ∈ cs, v.oneCell' = true) (hi : (P.info? U).map (·.size) = some cs.length)
    (x y : Operand) (ho : o.op = .store U x y) (hx : a.eval x = .pointer (some ⟨B, j, none⟩)) (hy : a.eval y = .agg cs.toArray)
    (h : ∀ w', w'.heap[B]? = some (.cells (zs.take j ++ cs ++ zs.drop (j + cs.length)).toArray T (0, 0)) → Turn (fun q => q = B) w w' → K (a.put o.dst undef) w') : o.wp P a w K Q := by
  refine wp_store_mid U x y ho B j cs.toArray hx hy (fun i hi => ?_) (by simpa using hi) (all_oneCell_toArray h1) (h _ (heap_setCells B T cs j w zs hh hl) (turn_setCells B cs j w))
  have := there_row hh (j + i) (by simp only [List.size_toArray] at hi; omega)
  simpa using this
end Go.Proofs.Ytkciaafkhpjnaaa
namespace Go.Proofs.Ytkciaafkhpjnaaa
set_option maxRecDepth 100000
open Go.RowKit
set_option linter.unusedVariables false
set_option linter.unusedSimpArgs false

theorem eds_grow (n : Nat) (hn : n ≤ 100000) (w : World) : Calls Try.prog 47 #[.slice none 0 0, .int .i64 (n : Int)] w fun e w' => ∃ v, e = .returned v ∧ w'.ownsRow w.heap.size 53 16 v 0 [] ∧ Turn (fun _ => False) w w' := by
  obtain ⟨i0, hi, hz0, hz1, hz2⟩ := info_parts ed_infop
  have hd0 : decide ((n : Int) < 0) = false := by simp
  by_cases h0 : 0 < n
  · have hrun := Lib.run_append_nil_zeros (P := Try.prog) w 28 3 28 53 i0 _ .i64 .i64 Try.underlying28 Try.underlying3 hi hz0 n h0 (by rw [hz1]; decide) (by omega) (by rw [hz2]; omega)
    have HR := Lib.hid hrun
    have hd1 : decide ((0 : Int) < (n : Int)) = true := by simp; omega
    have hge := grownCap_ge w n 0 53
    have hcm := grownCap_le_maxLen w n 0 53 (by simp only [maxLen]; omega)
    clear hrun
    go_enter Try.func47, Try.ntmps47
    go_wp2_with (at_builtin; refine Lib.wpList_append_run _ rfl _ _ _ _ rfl _ _ rfl rfl _ _ HR.out ?_)
    go_ret
    refine ⟨_, rfl, ⟨rfl, .inr ⟨w.heap.size, _, _, rfl, Nat.le_refl _, heap_alloc_new w.drew _, Nat.zero_le _, hcm, ?_, by simp⟩⟩, ((Turn.refl _ w).drew).alloc _⟩
    simp [size_zeroCells, Value.cells, Ed.vlen]
    omega
  · have : n = 0 := by omega
    subst this
    go_enter Try.func47, Try.ntmps47
    go_wp2_with fail
    go_ret
    exact ⟨_, rfl, World.ownsRow_nil _ _ _ _, Turn.refl _ _⟩
def sumLE (L : List (List Ed)) (k : Nat) : Nat := ((L.take k).map List.length).sum
theorem sumLE_succ (L : List (List Ed)) (k : Nat) (h : k < L.length) : sumLE L (k + 1) = sumLE L k + (L.getD k []).length := by
  have e : L.getD k [] = L[k] := by simp [List.getD, h]
  unfold sumLE
  rw [e, List.take_succ_eq_append_getElem h, List.map_append, List.sum_append]
  rfl
theorem flatE_succ (L : List (List Ed)) (k : Nat) (h : k < L.length) : (L.take (k + 1)).flatten = (L.take k).flatten ++ L.getD k [] := by
  have e : L.getD k [] = L[k] := by simp [List.getD, h]
  rw [e, List.take_succ_eq_append_getElem h, List.flatten_append]
  simp only [List.flatten_cons, List.flatten_nil, List.append_nil]
theorem flatE_len (L : List (List Ed)) (k : Nat) : ((L.take k).flatten).length = sumLE L k := by simp [sumLE, List.length_flatten]
theorem sumLE_mono (L : List (List Ed)) (k : Nat) : sumLE L k ≤ sumLE L L.length := by
  unfold sumLE
  rw [List.take_length]
  conv => rhs; rw [← List.take_append_drop k L, List.map_append, List.sum_append]
  omega
/-- Some charts, as a call of many holds them. -/
structure ManyE (w : World) (G : Nat) (f : Nat → Value) (L : List (List Ed)) : Prop where
  lt : G < w.heap.size
  at_ : ∀ k, k < L.length → w.cell? ⟨G, k, none⟩ = some (f k)
  row : ∀ k, k < L.length → EdV w (f k) (L.getD k [])
theorem ManyE.turn {w w' : World} {G : Nat} {f : Nat → Value} {L : List (List Ed)} (h : ManyE w G f L) (t : Turn (fun _ => False) w w') : ManyE w' G f L :=
  ⟨Nat.lt_of_lt_of_le h.lt t.size, fun k hk => (t.cell (p := ⟨G, k, none⟩) h.lt id).trans (h.at_ k hk), fun k hk => (h.row k hk).turn t (fun _ _ => id)⟩
set_option maxHeartbeats 1600000 in
theorem concat_eds (w : World) (G c0 : Nat) (f : Nat → Value) (L : List (List Ed)) (n : Nat) (hn : L.length = n) (hc0 : n ≤ c0) (hv : ManyE w G f L) (hb : n ≤ 10) (hs : sumLE L n ≤ 100000) :
    Calls Try.prog 29 #[.slice (some ⟨G, 0, none⟩) n c0] w (NewEds w L.flatten) := by
  have hmono : ∀ k, sumLE L k ≤ 100000 := fun k => by
    have := sumLE_mono L k
    rw [hn] at this
    omega
  have HV := Lib.hid hv
  have HN := Lib.hid hn
  have HM := Lib.hid hmono
  clear hv hn hmono
  go_enter Try.func29, Try.ntmps29
  go_wp2_with fail
  go_loop [3, 11] (fun sv iv => ∃ (k : Nat), k ≤ n ∧ iv = .int .i64 (k : Int) ∧ sv = .int .i64 ((sumLE L k : Nat) : Int)) (fun _ i => n - (intOf i).toNat)
  case atStart => exact ⟨0, Nat.zero_le _, rfl, rfl⟩
  case round =>
    obtain ⟨k, hk, rfl, rfl⟩ := hrel
    by_cases hlt : k < n
    · have hkl : k < L.length := by rw [HN.out]; exact hlt
      have hcell := HV.out.at_ k hkl
      obtain ⟨a, c, hf⟩ := (HV.out.row k hkl).form
      have hsucc := sumLE_succ L k hkl
      have hm1 := HM.out (k + 1)
      rw [hf] at hcell
      generalize hq : (L.getD k []).length = m at *
      generalize hs0 : sumLE L k = s at *
      have HSU := Lib.hid hsucc
      have hm2 : s + m ≤ 100000 := by omega
      have hd : decide ((s : Int) + (m : Int) < 0) = false := by simp; omega
      clear hsucc hm1 hf hs0 hq
      go_wp2_with fail
      go_round
      case rel => exact ⟨k + 1, by omega, by go_num, by rw [HSU.out]; go_num⟩
      case measure => simp [intOf]; omega
    · have hke : k = n := by omega
      subst hke
      go_wp2_with fail
      refine (eds_grow (sumLE L k) hs w).mono ?_
      rintro e w1 ⟨v1, rfl, ho1, t1⟩
      have HO1 := Lib.hid ho1
      clear ho1
      go_wp2_with fail
      go_loopw [6, 27] (fun sv iv wr => ∃ (j : Nat), j ≤ k ∧ iv = .int .i64 (j : Int) ∧ wr.ownsRow w.heap.size 53 16 sv ((L.take j).flatten).length (edsV (L.take j).flatten) ∧ Turn (fun _ => False) w wr) (fun _ i _ => k - (intOf i).toNat)
      case atStart => exact ⟨0, Nat.zero_le _, rfl, by simpa [edsV] using HO1.out, t1⟩
      case round =>
        obtain ⟨j, hj, rfl, ho, tr⟩ := hrel
        have HO := Lib.hid ho
        have HTR := Lib.hid tr
        clear ho tr
        by_cases hjk : j < k
        · have hjl : j < L.length := by rw [HN.out]; exact hjk
          have hcell := (HV.out.turn HTR.out).at_ j hjl
          have hrow := (HV.out.turn HTR.out).row j hjl
          have hfl := flatE_succ L j hjl
          have hlen : ((L.take j).flatten).length + (L.getD j []).length ≤ 1000000 := by
            have := HM.out (j + 1)
            rw [sumLE_succ L j hjl, ← flatE_len] at this
            omega
          obtain ⟨v', w', hr, ho2, t2⟩ := app_eds wr w.heap.size 28 28 Try.underlying28 _ _ _ _ HO.out hrow HTR.out.size hlen
          have t3 := turn_on_ed HO.out (Nat.le_refl _) HTR.out t2
          rw [← hfl] at ho2
          have HR := Lib.hid hr
          have HO2 := Lib.hid ho2
          have HT3 := Lib.hid t3
          clear hr ho2 t2 t3 hrow hfl hlen
          go_wp2_with (with_reducible (show wpList _ _ _ (Oper.mk (some 33) _ _ _ _ _ :: _) _ _); refine still ?_)
          refine list_exec rfl _ _ (exec_append _ _ (.tmp 31) (.tmp 32) 28 rfl _ _ _ _ _ rfl rfl HR.out) ?_
          go_wp2_with fail
          go_roundw
          case rel => exact ⟨j + 1, by omega, by go_num, HO2.out, HT3.out⟩
          case measure => simp [intOf]; omega
        · have hje : j = k := by omega
          subst hje
          go_wp2_with fail
          go_ret
          refine ⟨_, rfl, ?_, HTR.out⟩
          have := HO.out
          rw [← HN.out, List.take_length] at this
          exact this
theorem run_build_eds3 (v0 v1 v2 : Value) (a0 a1 a2 : Option Addr) (n0 n1 n2 c0 c1 c2 : Nat) (h0 : v0 = .slice a0 n0 c0) (h1 : v1 = .slice a1 n1 c1) (h2 : v2 = .slice a2 n2 c2) (w : World) : (Instr.buildSlice 90 3 #[(0, v0), (1, v1), (2, v2)]).run Try.prog w = .ok (.slice (some ⟨w.heap.size, 0, none⟩) 3 3) (w.alloc (.cells #[v0, v1, v2] 28)) := by
  subst h0 h1 h2
  kernel_rfl
theorem exec_build_eds3 (ev : Operand → Value) (op : Oper) (x y z : Operand) (ho : op.op = .buildSlice 90 3 #[(0, x), (1, y), (2, z)]) (v0 v1 v2 : Value) (h0 : ∃ a n c, v0 = .slice a n c) (h1 : ∃ a n c, v1 = .slice a n c) (h2 : ∃ a n c, v2 = .slice a n c) (hx : ev x = v0) (hy : ev y = v1) (hz : ev z = v2) (w : World) : (execOp ev op).run Try.prog w = .ok (.value (.slice (some ⟨w.heap.size, 0, none⟩) 3 3)) (w.alloc (.cells #[v0, v1, v2] 28)) := by
  obtain ⟨a0, n0, c0, e0⟩ := h0
  obtain ⟨a1, n1, c1, e1⟩ := h1
  obtain ⟨a2, n2, c2, e2⟩ := h2
  have h := run_build_eds3 v0 v1 v2 a0 a1 a2 n0 n1 n2 c0 c1 c2 e0 e1 e2 w
  unfold execOp
  simp only [ho, hx, hy, hz, Sem.run_bind, Sem.run_pure, Result.andThen_ok, List.map_toArray, List.map_cons, List.map_nil, h]
theorem many_eds3 {w : World} {v0 v1 v2 : Value} {l0 l1 l2 : List Ed} (h0 : EdV w v0 l0) (h1 : EdV w v1 l1) (h2 : EdV w v2 l2) : ManyE (w.alloc (.cells #[v0, v1, v2] 28)) w.heap.size (fun k => if k = 0 then v0 else if k = 1 then v1 else v2) [l0, l1, l2] := by
  have hb := box_alloc w 28 [v0, v1, v2]
  have hr := range_of hb.heap
  refine ⟨by simp, ?_, ?_⟩
  · intro k hk
    have hk3 : k < 3 := hk
    rcases (show k = 0 ∨ k = 1 ∨ k = 2 by omega) with rfl | rfl | rfl
    · exact hr 0 _ rfl
    · exact hr 1 _ rfl
    · exact hr 2 _ rfl
  · intro k hk
    have hk3 : k < 3 := hk
    rcases (show k = 0 ∨ k = 1 ∨ k = 2 by omega) with rfl | rfl | rfl
    · exact h0.turn hb.turn (fun _ _ => id)
    · exact h1.turn hb.turn (fun _ _ => id)
    · exact h2.turn hb.turn (fun _ _ => id)

end Go.Proofs.Ytkciaafkhpjnaaa
