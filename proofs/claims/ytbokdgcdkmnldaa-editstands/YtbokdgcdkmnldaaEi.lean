/- Own contracts: edits: the document's lacks, parent, fits. No statement is proved here. -/
import Derived.Test.YtbokdgcdkmnldaaEf
import Derived.Test.YtbokdgcdkmnldaaWs
namespace Go.Proofs.Ytbokdgcdkmnldaa
set_option maxRecDepth 100000
open Go.RowKit
set_option linter.unusedVariables false
set_option linter.unusedSimpArgs false

theorem rfind2 (w : World) (v : Value) (l : List El) (nr : Int) (hv : RowV w v l) (hr : Rises l) (hb : l.length ≤ 1000) : Calls Try.prog 20 #[v, .int .i64 nr] w fun e w' => w = w' ∧ ∃ i : Int, e = .returned (.int .i64 i) ∧ ((∃ k : Nat, k < l.length ∧ i = (k : Int) ∧ getE l nr = some (l.getD k el0)) ∨ (i = -1 ∧ getE l nr = none)) := by
  refine (rfind_any w v l nr hv hb).mono ?_
  rintro e w' ⟨h | h, rfl⟩
  · obtain ⟨k, hk, hid, _, rfl⟩ := h
    exact ⟨rfl, _, rfl, .inl ⟨k, hk, rfl, (getE_iff hr).2 ⟨getD_mem hk, hid⟩⟩⟩
  · obtain ⟨hn, rfl⟩ := h
    refine ⟨rfl, _, rfl, .inr ⟨rfl, getE_none.2 fun x hx => ?_⟩⟩
    obtain ⟨k, hk, rfl⟩ := List.getElem_of_mem hx
    have := hn k hk
    simpa [List.getD, hk] using this
theorem rlacks_any (w : World) (v : Value) (l : List El) (nr : Int) (hv : RowV w v l) (hr : Rises l) (hb : l.length ≤ 1000) : Calls Try.prog 32 #[v, .int .i64 nr] w fun e w' => e = .returned (.bool (lacksB l nr)) ∧ w = w' := by
  by_cases h0 : nr = 0
  · have q0 : (nr == 0) = true := by simpa using h0
    have q1 : (nr != 0) = false := by simpa using h0
    have HL := Lib.hid (show lacksB l nr = false by unfold lacksB; rw [decide_eq_false (show ¬ nr ≠ 0 by omega)]; rfl)
    clear h0
    go_enter Try.func32, Try.ntmps32
    go_wp2_with fail
    go_ret
    exact ⟨by rw [HL.out]; rfl, rfl⟩
  · have q0 : (nr == 0) = false := by simpa using h0
    have q1 : (nr != 0) = true := by simpa using h0
    have HL := Lib.hid (show lacksB l nr = !hasB l nr by unfold lacksB; rw [decide_eq_true h0]; rfl)
    have HF := Lib.hid (rfind2 w v l nr hv hr hb)
    clear h0 hv hr
    go_enter Try.func32, Try.ntmps32
    go_wp2_with (go_at_call 20; refine HF.out.mono ?_; rintro r w1 ⟨rfl, i, rfl, hc⟩; have HC := Lib.hid hc; clear hc; refine still ?_)
    unfold Still
    rcases HC.out with ⟨k, hk, hi, hg⟩ | ⟨hi, hg⟩
    · have HB := Lib.hid (show hasB l nr = true by unfold hasB; rw [hg]; rfl)
      have d : decide (i < 0) = false := decide_eq_false (by omega)
      clear hk hi hg
      go_wp2_with fail
      go_ret
      exact ⟨by rw [HL.out, HB.out]; rfl, rfl⟩
    · have HB := Lib.hid (show hasB l nr = false by unfold hasB; rw [hg]; rfl)
      have d : decide (i < 0) = true := decide_eq_true (by omega)
      clear hi hg
      go_wp2_with fail
      go_ret
      exact ⟨by rw [HL.out, HB.out]; rfl, rfl⟩
theorem rpar_any (w : World) (v : Value) (l : List El) (nr : Int) (hv : RowV w v l) (hb : l.length ≤ 1000) : Calls Try.prog 33 #[v, .int .i64 nr] w fun e w' => e = .returned (.bool (parB l nr)) ∧ w = w' := by
  obtain ⟨la, lc, rfl⟩ := hv.form
  obtain ⟨n, hn⟩ : ∃ n, l.length = n := ⟨_, rfl⟩
  rw [hn] at hv hb
  simp only [hn]
  have HV := Lib.hid hv
  have HN := Lib.hid hn
  clear hv hn
  go_enter Try.func33, Try.ntmps33
  go_wp2_with fail
  go_loop [5] (fun iv => ∃ k : Nat, k ≤ n ∧ iv = .int .i64 (k : Int) ∧ parB (l.take k) nr = false) (fun iv => n - (intOf iv).toNat)
  case atStart => exact ⟨0, Nat.zero_le _, rfl, by rw [List.take_zero]; rfl⟩
  case round =>
    obtain ⟨k, hk, rfl, hne⟩ := hrel
    have HNE := Lib.hid hne
    clear hne
    by_cases hlt : k < n
    · have hsn := take_snoc l k (by rw [HN.out]; exact hlt)
      have hmm := getD_mem (l := l) (k := k) (by rw [HN.out]; exact hlt)
      obtain ⟨b, o, rfl, hc, hs1⟩ := HV.out.one HN.out k hlt
      have gi : (0 : Int) ≤ (k : Int) ∧ (k : Int) < (n : Int) := by omega
      generalize hx : l.getD k el0 = x at *
      have HSN := Lib.hid hsn
      have HMM := Lib.hid hmm
      have c2 : w.cell? ⟨b, o + k * 10 + 2, none⟩ = some (.int .i64 x.par) := hs1 2 _ rfl
      clear hx hs1 hsn hmm
      by_cases he : x.par = nr
      · have d1 : (x.par == nr) = true := by simpa using he
        have HE := Lib.hid (show parB l nr = true from List.any_eq_true.2 ⟨x, HMM.out, by simpa using he⟩)
        clear he
        go_wp2_with fail
        go_ret
        exact ⟨by rw [HE.out]; rfl, rfl⟩
      · have d1 : (x.par == nr) = false := by simpa using he
        have HE := Lib.hid (show parB (l.take (k + 1)) nr = false by rw [HSN.out]; unfold parB; rw [List.any_append]; rw [show (l.take k).any (fun x => decide (x.par = nr)) = false from HNE.out]; simp [he])
        clear he
        go_wp2_with fail
        go_round
        case rel => exact ⟨k + 1, by omega, by go_num, HE.out⟩
        case measure => simp [intOf]; omega
    · have hke : k = n := by omega
      subst hke
      have HE := Lib.hid (show parB l nr = false by have := HNE.out; rwa [List.take_of_length_le (by rw [HN.out]; omega)] at this)
      go_wp2_with fail
      go_ret
      exact ⟨by rw [HE.out]; rfl, rfl⟩
theorem e0_iff (s : ByteArray) : decide (s = e0) = (s.toList == ({ data := #[] } : ByteArray).toList) := by rw [name_eq]; rfl
theorem fits_num {f n : Int} {s : ByteArray} (hf : 0 ≤ f ∧ f ≤ 8) (h : ¬ (f = 3 ∨ 5 < f)) : fitsB f n s = (decide (s = e0) && (decide (0 < f) || (decide (0 ≤ n) && decide (n < 256)))) := by
  unfold fitsB
  rw [decide_eq_true (show 0 ≤ f ∧ f < 9 by omega), Bool.true_and]
  rcases (by omega : f = 0 ∨ f = 1 ∨ f = 2 ∨ f = 4 ∨ f = 5) with rfl | rfl | rfl | rfl | rfl
  · simp only [setV, getN, getS, el0, El.at, if_true, if_false]
    simp
    rw [show decide (n % 256 = n) = (decide (0 ≤ n) && decide (n < 256)) from by rw [← Bool.decide_and]; exact decide_eq_decide.2 (by omega), show decide (e0 = s) = decide (s = e0) from decide_eq_decide.2 eq_comm, Bool.and_comm]
  all_goals (simp [setV, getN, getS]; exact eq_comm)
theorem fits_txt {f n : Int} {s : ByteArray} (hf : 0 ≤ f ∧ f ≤ 8) (h : f = 3 ∨ 5 < f) : fitsB f n s = decide (n = 0) := by
  unfold fitsB
  rw [decide_eq_true (show 0 ≤ f ∧ f < 9 by omega), Bool.true_and]
  rcases (by omega : f = 3 ∨ f = 6 ∨ f = 7 ∨ f = 8) with rfl | rfl | rfl | rfl
  all_goals (simp [setV, getN, getS]; exact eq_comm)
theorem fits_out {f n : Int} {s : ByteArray} (hf : ¬ (0 ≤ f ∧ f ≤ 8)) : fitsB f n s = false := by
  unfold fitsB
  rw [decide_eq_false (show ¬ (0 ≤ f ∧ f < 9) by omega), Bool.false_and]
set_option maxHeartbeats 4000000 in
theorem rfits_any (w : World) (f n : Int) (s : ByteArray) : Calls Try.prog 31 #[.int .i64 f, .agg (vl n s).toArray] w fun e w' => e = .returned (.bool (fitsB f n s)) ∧ Turn (fun _ => False) w w' := by
  have hbx := box_alloc w 26 (vl n s)
  obtain ⟨X, hX⟩ : ∃ X, w.heap.size = X := ⟨_, rfl⟩
  obtain ⟨w1, hw1⟩ : ∃ w1, w.alloc (.cells (vl n s).toArray 26) = w1 := ⟨_, rfl⟩
  rw [hw1] at hbx
  have hr := hbx.range
  rw [hX] at hr
  have c0 : w1.cell? ⟨X, 0, none⟩ = some (.int .i64 n) := hr 0 _ rfl
  have c1 : w1.cell? ⟨X, 1, none⟩ = some (.string s) := hr 1 _ rfl
  have HT := Lib.hid hbx.turn
  clear hbx hr
  by_cases hf : 0 ≤ f ∧ f ≤ 8
  · by_cases h : f = 3 ∨ 5 < f
    · have HF := Lib.hid (fits_txt (n := n) (s := s) hf h)
      have d1 : decide (f < 0) = false := decide_eq_false (by omega)
      have d2 : decide (8 < f) = false := decide_eq_false (by omega)
      by_cases h3 : f = 3
      · subst h3
        clear h hf
        go_enter Try.func31, Try.ntmps31
        go_wp2_with fail
        go_ret
        exact ⟨by rw [HF.out]; rfl, HT.out⟩
      · have d3 : (f == 3) = false := by simpa using h3
        have d4 : decide (5 < f) = true := decide_eq_true (by omega)
        clear h hf h3
        go_enter Try.func31, Try.ntmps31
        go_wp2_with fail
        go_ret
        exact ⟨by rw [HF.out]; rfl, HT.out⟩
    · have HF := Lib.hid (fits_num (n := n) (s := s) hf h)
      have HS := Lib.hid (e0_iff s)
      have d1 : decide (f < 0) = false := decide_eq_false (by omega)
      have d2 : decide (8 < f) = false := decide_eq_false (by omega)
      have d3 : (f == 3) = false := by simpa using (show ¬ f = 3 by omega)
      have d4 : decide (5 < f) = false := decide_eq_false (by omega)
      clear h hf
      go_enter Try.func31, Try.ntmps31
      go_wp2_with fail
      all_goals go_ret
      all_goals (refine ⟨?_, HT.out⟩; refine congrArg (fun b => Ending.returned (Value.bool b)) ?_; rw [HF.out, HS.out]; clear HF HS HT; simp_all; try omega)
  · have HF := Lib.hid (fits_out (n := n) (s := s) hf)
    by_cases h1 : f < 0
    · have d1 : decide (f < 0) = true := decide_eq_true h1
      clear hf h1
      go_enter Try.func31, Try.ntmps31
      go_wp2_with fail
      go_ret
      exact ⟨by rw [HF.out]; rfl, HT.out⟩
    · have d1 : decide (f < 0) = false := decide_eq_false h1
      have d2 : decide (8 < f) = true := decide_eq_true (by omega)
      clear hf h1
      go_enter Try.func31, Try.ntmps31
      go_wp2_with fail
      go_ret
      exact ⟨by rw [HF.out]; rfl, HT.out⟩

end Go.Proofs.Ytbokdgcdkmnldaa
