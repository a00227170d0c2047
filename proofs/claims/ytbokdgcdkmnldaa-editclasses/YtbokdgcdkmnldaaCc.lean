/- Own contracts: charts put together. No statement is proved here. -/
import Derived.Test.YtbokdgcdkmnldaaBs
import Derived.Lib.AppendZeros
namespace Go.Proofs.Ytbokdgcdkmnldaa
set_option maxRecDepth 100000
open Go.RowKit
set_option linter.unusedVariables false
set_option linter.unusedSimpArgs false


theorem els_grow (n : Nat) (hn : n ≤ 100000) (w : World) : Calls Try.prog 49 #[.slice none 0 0, .int .i64 (n : Int)] w fun e w' => ∃ v, e = .returned v ∧ w'.ownsRow w.heap.size 24 10 v 0 [] ∧ Turn (fun _ => False) w w' := by
  obtain ⟨i0, hi, hz0, hz1, hz2⟩ := info_parts el_infop
  have hd0 : decide ((n : Int) < 0) = false := by simp
  by_cases h0 : 0 < n
  · have hrun := Lib.run_append_nil_zeros (P := Try.prog) w 30 3 30 24 i0 _ .i64 .i64 Try.underlying30 Try.underlying3 hi hz0 n h0 (by rw [hz1]; decide) (by omega) (by rw [hz2]; omega)
    have HR := Lib.hid hrun
    have hd1 : decide ((0 : Int) < (n : Int)) = true := by simp; omega
    have hge := grownCap_ge w n 0 24
    have hcm := grownCap_le_maxLen w n 0 24 (by simp only [maxLen]; omega)
    clear hrun
    go_enter Try.func49, Try.ntmps49
    go_wp2_with (at_builtin; refine Lib.wpList_append_run _ rfl _ _ _ _ rfl _ _ rfl rfl _ _ HR.out ?_)
    go_ret
    refine ⟨_, rfl, ⟨rfl, .inr ⟨w.heap.size, _, _, rfl, Nat.le_refl _, heap_alloc_new w.drew _, Nat.zero_le _, hcm, ?_, by simp⟩⟩, ((Turn.refl _ w).drew).alloc _⟩
    simp [size_zeroCells, Value.cells, El.vlen]
    omega
  · have : n = 0 := by omega
    subst this
    go_enter Try.func49, Try.ntmps49
    go_wp2_with fail
    go_ret
    exact ⟨_, rfl, World.ownsRow_nil _ _ _ _, Turn.refl _ _⟩
def NewEls (w : World) (l : List El) (e : Ending) (w' : World) : Prop := ∃ v, e = .returned v ∧ w'.ownsRow w.heap.size 24 10 v l.length (elsV l) ∧ Turn (fun _ => False) w w'
def sumL (L : List (List El)) (k : Nat) : Nat := ((L.take k).map List.length).sum
theorem sumL_succ (L : List (List El)) (k : Nat) (h : k < L.length) : sumL L (k + 1) = sumL L k + (L.getD k []).length := by
  have e : L.getD k [] = L[k] := by simp [List.getD, h]
  unfold sumL
  rw [e, List.take_succ_eq_append_getElem h, List.map_append, List.sum_append]
  rfl
theorem flat_succ (L : List (List El)) (k : Nat) (h : k < L.length) : (L.take (k + 1)).flatten = (L.take k).flatten ++ L.getD k [] := by
  have e : L.getD k [] = L[k] := by simp [List.getD, h]
  rw [e, List.take_succ_eq_append_getElem h, List.flatten_append]
  simp only [List.flatten_cons, List.flatten_nil, List.append_nil]
theorem flat_len (L : List (List El)) (k : Nat) : ((L.take k).flatten).length = sumL L k := by simp [sumL, List.length_flatten]
theorem sumL_mono (L : List (List El)) (k : Nat) : sumL L k ≤ sumL L L.length := by
  unfold sumL
  rw [List.take_length]
  conv => rhs; rw [← List.take_append_drop k L, List.map_append, List.sum_append]
  omega
/-- Some charts, as a call of many holds them. -/
structure ManyV (w : World) (G : Nat) (f : Nat → Value) (L : List (List El)) : Prop where
  lt : G < w.heap.size
  at_ : ∀ k, k < L.length → w.cell? ⟨G, k, none⟩ = some (f k)
  row : ∀ k, k < L.length → RowV w (f k) (L.getD k [])
theorem ManyV.turn {w w' : World} {G : Nat} {f : Nat → Value} {L : List (List El)} (h : ManyV w G f L) (t : Turn (fun _ => False) w w') : ManyV w' G f L :=
  ⟨Nat.lt_of_lt_of_le h.lt t.size, fun k hk => (t.cell (p := ⟨G, k, none⟩) h.lt id).trans (h.at_ k hk), fun k hk => (h.row k hk).turn t (fun _ _ => id)⟩
set_option maxHeartbeats 1600000 in
theorem concat_els (w : World) (G c0 : Nat) (f : Nat → Value) (L : List (List El)) (n : Nat) (hn : L.length = n) (hc0 : n ≤ c0) (hv : ManyV w G f L) (hb : n ≤ 10) (hs : sumL L n ≤ 100000) :
    Calls Try.prog 45 #[.slice (some ⟨G, 0, none⟩) n c0] w (NewEls w L.flatten) := by
  have hmono : ∀ k, sumL L k ≤ 100000 := fun k => by
    have := sumL_mono L k
    rw [hn] at this
    omega
  have HV := Lib.hid hv
  have HN := Lib.hid hn
  have HM := Lib.hid hmono
  clear hv hn hmono
  go_enter Try.func45, Try.ntmps45
  go_wp2_with fail
  go_loop [3, 11] (fun sv iv => ∃ (k : Nat), k ≤ n ∧ iv = .int .i64 (k : Int) ∧ sv = .int .i64 ((sumL L k : Nat) : Int)) (fun _ i => n - (intOf i).toNat)
  case atStart => exact ⟨0, Nat.zero_le _, rfl, rfl⟩
  case round =>
    obtain ⟨k, hk, rfl, rfl⟩ := hrel
    by_cases hlt : k < n
    · have hkl : k < L.length := by rw [HN.out]; exact hlt
      have hcell := HV.out.at_ k hkl
      obtain ⟨a, c, hf⟩ := (HV.out.row k hkl).form
      have hsucc := sumL_succ L k hkl
      have hm1 := HM.out (k + 1)
      rw [hf] at hcell
      generalize hq : (L.getD k []).length = m at *
      generalize hs0 : sumL L k = s at *
      have HSU := Lib.hid hsucc
      have hm2 : s + m ≤ 100000 := by omega
      have hd : decide ((s : Int) + (m : Int) < 0) = false := by simp; omega
      clear hsucc hm1 hf hs0 hq
      go_wp2_with fail
      go_round
      case rel => exact ⟨k + 1, by omega, by go_num, by rw [HSU.out]; go_num⟩
      case measure => simp [intOf]; omega
    · have hke : k = n := by omega
      subst hke
      go_wp2_with fail
      refine (els_grow (sumL L k) hs w).mono ?_
      rintro e w1 ⟨v1, rfl, ho1, t1⟩
      have HO1 := Lib.hid ho1
      clear ho1
      go_wp2_with fail
      go_loopw [6, 27] (fun sv iv wr => ∃ (j : Nat), j ≤ k ∧ iv = .int .i64 (j : Int) ∧ wr.ownsRow w.heap.size 24 10 sv ((L.take j).flatten).length (elsV (L.take j).flatten) ∧ Turn (fun _ => False) w wr) (fun _ i _ => k - (intOf i).toNat)
      case atStart => exact ⟨0, Nat.zero_le _, rfl, by simpa [elsV] using HO1.out, t1⟩
      case round =>
        obtain ⟨j, hj, rfl, ho, tr⟩ := hrel
        have HO := Lib.hid ho
        have HTR := Lib.hid tr
        clear ho tr
        by_cases hjk : j < k
        · have hjl : j < L.length := by rw [HN.out]; exact hjk
          have hcell := (HV.out.turn HTR.out).at_ j hjl
          have hrow := (HV.out.turn HTR.out).row j hjl
          have hfl := flat_succ L j hjl
          have hlen : ((L.take j).flatten).length + (L.getD j []).length ≤ 1000000 := by
            have := HM.out (j + 1)
            rw [sumL_succ L j hjl, ← flat_len] at this
            omega
          obtain ⟨v', w', hr, ho2, t2⟩ := app_els wr w.heap.size 30 30 Try.underlying30 _ _ _ _ HO.out hrow HTR.out.size hlen
          have t3 := turn_on HO.out (Nat.le_refl _) HTR.out t2
          rw [← hfl] at ho2
          have HR := Lib.hid hr
          have HO2 := Lib.hid ho2
          have HT3 := Lib.hid t3
          clear hr ho2 t2 t3 hrow hfl hlen
          go_wp2_with (with_reducible (show wpList _ _ _ (Oper.mk (some 33) _ _ _ _ _ :: _) _ _); refine still ?_)
          refine list_exec rfl _ _ (exec_append _ _ (.tmp 31) (.tmp 32) 30 rfl _ _ _ _ _ rfl rfl HR.out) ?_
          go_wp2_with fail
          go_roundw
          case rel => exact ⟨j + 1, by omega, by go_num, HO2.out, HT3.out⟩
          case measure => simp [intOf]; omega
        · have hje : j = k := by omega
          subst hje
          go_wp2_with fail
          go_ret
          refine ⟨_, rfl, ?_, HTR.out⟩
          have := HO.out
          rw [← HN.out, List.take_length] at this
          exact this
end Go.Proofs.Ytbokdgcdkmnldaa
