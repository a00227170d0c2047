/- Own texts, packed: L4. No statement is proved here. -/
import Derived.Test.YtkciaafkhpjnaaaQ35
import Derived.Test.YtkciaafkhpjnaaaQ38
import Derived.Deep.RegionHeld3
namespace Go.Proofs.Ytkciaafkhpjnaaa
set_option maxRecDepth 100000
open Go.RowKit
set_option linter.unusedVariables false
set_option linter.unusedSimpArgs false

theorem touch_len (l : List Ed) : (touchE l).length ≤ l.length := by
  unfold touchE idsU
  refine Nat.le_trans (compact_len _) ?_
  rw [List.length_mergeSort, List.length_map]
  simp
set_option maxHeartbeats 16000000 in
theorem turned_law (W : World) (v0 v1 : Value) (n0 n1 : List A4) (h0 : ActsV W v0 n0) (h1 : ActsV W v1 n1) : Calls Try.prog 6 #[v0, v1] W fun e w' => e = .returned (.bool true) ∧ Turn (fun _ => False) W w' := by
  obtain ⟨la, lc, rfl⟩ := h0.form
  obtain ⟨n, hn⟩ : ∃ n, n0.length = n := ⟨_, rfl⟩
  obtain ⟨ma, mc, rfl⟩ := h1.form
  obtain ⟨m, hm⟩ : ∃ m, n1.length = m := ⟨_, rfl⟩
  rw [hn] at h0
  rw [hm] at h1
  simp only [hn, hm]
  have H0 := Lib.hid h0
  have H1 := Lib.hid h1
  have HN := Lib.hid hn
  have HM := Lib.hid hm
  clear h0 h1 hn hm
  go_enter Try.func6, Try.ntmps6
  go_wp2_with fail
  refine (awake_any W).mono ?_
  rintro r w1 ⟨rfl, t1⟩
  have T1 := Lib.hid t1
  clear t1
  by_cases hb0 : 24 < n
  · have db0 : decide (24 < (n : Int)) = true := decide_eq_true (by omega)
    go_wp2_with fail
    refine (awake_any w1).mono ?_
    rintro r w2 ⟨rfl, t2⟩
    go_wp2_with fail
    go_ret
    exact ⟨rfl, T1.out.trans t2 (fun _ _ => id)⟩
  · have db0 : decide (24 < (n : Int)) = false := decide_eq_false (by omega)
    by_cases hb1 : 24 < m
    · have db1 : decide (24 < (m : Int)) = true := decide_eq_true (by omega)
      go_wp2_with fail
      refine (awake_any w1).mono ?_
      rintro r w2 ⟨rfl, t2⟩
      go_wp2_with fail
      go_ret
      exact ⟨rfl, T1.out.trans t2 (fun _ _ => id)⟩
    · have db1 : decide (24 < (m : Int)) = false := decide_eq_false (by omega)
      go_wp2_with fail
      refine (make_any w1 _ n0 (H0.out.turn T1.out) (by rw [HN.out]; omega)).mono ?_
      rintro r w2 ⟨vx, rfl, hx, t2⟩
      have T2 := Lib.hid (T1.out.trans t2 (fun _ _ => id))
      have HX2 := Lib.hid hx
      clear t2 hx
      go_wp2_with fail
      refine (make_any w2 _ n1 (H1.out.turn T2.out) (by rw [HM.out]; omega)).mono ?_
      rintro r w4 ⟨vy, rfl, hy, t3⟩
      have T4 := Lib.hid (T2.out.trans t3 (fun _ _ => id))
      have HX4 := Lib.hid (HX2.out.turn t3 (fun _ _ => id))
      have HY4 := Lib.hid hy
      clear t3 hy
      have GX := Lib.hid (good_makeE n0)
      have GY := Lib.hid (good_makeE n1)
      obtain ⟨X, hX⟩ : ∃ X, makeE n0 = X := ⟨_, rfl⟩
      obtain ⟨Y, hY⟩ : ∃ Y, makeE n1 = Y := ⟨_, rfl⟩
      rw [hX] at HX4 GX
      rw [hY] at HY4 GY
      clear hX hY HX2
      obtain ⟨L, hd1, hd2⟩ := diff_leads GX.out.good GY.out.good
      have HDL := Lib.hid hd1
      have HNL := Lib.hid (show L.length ≤ 440 by have := diffE_len GX.out GY.out; rw [hd1] at this; exact this)
      clear hd1 hd2
      go_wp2_with fail
      refine (dif_any w4 _ _ X Y HX4.out HY4.out GX.out.kok GY.out.kok GX.out.iok GY.out.iok (by have := GX.out.len; omega) (by have := GY.out.len; omega)).mono ?_
      rintro r w5 ⟨v5, rfl, hv5, t5⟩
      rw [HDL.out] at hv5 ⊢
      obtain ⟨q, hq⟩ : ∃ q, L.length = q := ⟨_, rfl⟩
      obtain ⟨aq, cq, rfl⟩ : ∃ x y, v5 = .slice x q y := by rw [← hq]; exact hv5.form
      have T5 := Lib.hid (T4.out.trans t5 (fun _ _ => id))
      have tw5 := t5
      have HE5 := Lib.hid (show EdV w5 (.slice aq q cq) L from hv5)
      have HQq := Lib.hid hq
      clear hv5 t5 hq
      have HX5 := Lib.hid (HX4.out.turn tw5 (fun _ _ => id))
      have HY5 := Lib.hid (HY4.out.turn tw5 (fun _ _ => id))
      clear tw5
      obtain ⟨M, hd1, hd2⟩ := diff_leads GY.out.good GX.out.good
      have HDM := Lib.hid hd1
      have HNM := Lib.hid (show M.length ≤ 440 by have := diffE_len GY.out GX.out; rw [hd1] at this; exact this)
      clear hd1 hd2
      go_wp2_with fail
      refine (dif_any w5 _ _ Y X HY5.out HX5.out GY.out.kok GX.out.kok GY.out.iok GX.out.iok (by have := GY.out.len; omega) (by have := GX.out.len; omega)).mono ?_
      rintro r w6 ⟨v5, rfl, hv5, t5⟩
      rw [HDM.out] at hv5 ⊢
      obtain ⟨q2, hq⟩ : ∃ q, M.length = q := ⟨_, rfl⟩
      obtain ⟨aq2, cq2, rfl⟩ : ∃ x y, v5 = .slice x q2 y := by rw [← hq]; exact hv5.form
      have T6 := Lib.hid (T5.out.trans t5 (fun _ _ => id))
      have tw6 := t5
      have HF6 := Lib.hid (show EdV w6 (.slice aq2 q2 cq2) M from hv5)
      have HQq2 := Lib.hid hq
      clear hv5 t5 hq
      have HE6 := Lib.hid (HE5.out.turn tw6 (fun _ _ => id))
      clear tw6
      have HQQ := Lib.hid (show q2 = q by
        have h := diff_turned GX.out.good GY.out.good
        rw [HDL.out, HDM.out] at h
        have := HQq.out
        have := HQq2.out
        simp only at h
        omega)
      obtain rfl := HQQ.out
      have HTT := Lib.hid (show touchE L = touchE M from up_ext (touch_up L) (touch_up M) (fun nr => by
        rw [touch_mem, touch_mem]
        have h1 := diff_touch GX.out.good GY.out.good (nr := nr)
        have h2 := diff_touch GY.out.good GX.out.good (nr := nr)
        rw [HDL.out] at h1
        rw [HDM.out] at h2
        rw [h1, h2]
        exact ⟨fun h e => h e.symm, fun h e => h e.symm⟩))
      go_wp2_with fail
      refine (touched_any w6 _ L HE6.out (by have := HNL.out; omega)).mono ?_
      rintro r w7 ⟨v7, rfl, hv7, t7⟩
      have T7 := Lib.hid (T6.out.trans t7 (fun _ _ => id))
      have tw7 := t7
      obtain ⟨p, hp⟩ : ∃ p, (touchE L).length = p := ⟨_, rfl⟩
      rw [hp] at hv7
      obtain ⟨ap, cp, rfl⟩ := own_slice3 hv7
      have HLp := Lib.hid hp
      have HP7 := Lib.hid hv7
      clear hv7 t7 hp
      have HF7 := Lib.hid (HF6.out.turn tw7 (fun _ _ => id))
      clear tw7
      go_wp2_with fail
      refine (touched_any w7 _ M HF7.out (by have := HNM.out; omega)).mono ?_
      rintro r w8 ⟨v7, rfl, hv7, t7⟩
      have T8 := Lib.hid (T7.out.trans t7 (fun _ _ => id))
      have tw8 := t7
      obtain ⟨p2, hp⟩ : ∃ p, (touchE M).length = p := ⟨_, rfl⟩
      rw [hp] at hv7
      obtain ⟨ap2, cp2, rfl⟩ := own_slice3 hv7
      have HLp2 := Lib.hid hp
      have HP8 := Lib.hid hv7
      clear hv7 t7 hp
      have HP7b := Lib.hid (tw8.owns HP7.out (fun _ _ => id))
      clear tw8
      have hp2 : p2 ≤ 440 := by
        have h1 := touch_len M
        have := HLp2.out
        have := HNM.out
        omega
      have HPP := Lib.hid (show p2 = p by rw [← HLp.out, ← HLp2.out, HTT.out])
      obtain rfl := HPP.out
      have HR1 := Lib.hid (show w8.ownsRow w6.heap.size 3 1 (.slice ap p2 cp) p2 ((touchE M).map (Value.int .i64)) by have := HP7b.out; rw [HTT.out] at this; exact this)
      go_wp2_with fail
      go_loopw [13] (fun iv ws => ∃ k : Nat, k ≤ p2 ∧ iv = .int .i64 (k : Int) ∧ Turn (fun _ => False) w8 ws) (fun iv _ => p2 - (intOf iv).toNat)
      case atStart => exact ⟨0, Nat.zero_le _, rfl, Turn.refl _ _⟩
      case round =>
        obtain ⟨k, hk, rfl, ht⟩ := hrel
        have HT := Lib.hid ht
        clear ht
        by_cases hlt : k < p2
        · have gk : (0 : Int) ≤ (k : Int) ∧ (k : Int) < (p2 : Int) := by omega
          have dk : decide ((k : Int) < (p2 : Int)) = true := decide_eq_true (by omega)
          obtain ⟨g1, rfl, hc1, e1⟩ := int_at (HT.out.owns HR1.out (fun _ _ => id)) HLp2.out k hlt
          obtain ⟨g2, rfl, hc2, e2⟩ := int_at (HT.out.owns HP8.out (fun _ _ => id)) HLp2.out k hlt
          obtain ⟨y, hy⟩ : ∃ y, (touchE M).getD k 0 = y := ⟨_, rfl⟩
          rw [hy] at e1 e2
          clear hy
          go_wp2_with fail
          refine wp_region_held_drew (S := fun wq => wq.cell? ⟨g1, k, none⟩ = some (.int .i64 y) ∧ wq.cell? ⟨g2, k, none⟩ = some (.int .i64 y)) (by kernel_rfl) ⟨e1, e2⟩ (fun hHeld => ?_)
          refine wpAnyH_take (i := 0) (v := .slice (some ⟨g1, 0, none⟩) p2 cp) rfl (by kernel_rfl) (by kernel_rfl) (by kernel_rfl) (fun _ _ _ h => h) (Or.inl ⟨by rfl, ?ya1⟩) (by assumption) ?ra1
          case ya1 => (intro wq hSw; (try simp only [List.getElem_toArray, List.getElem_cons_zero, List.getElem_cons_succ]); go_simp; (try with_reducible rfl); all_goals (try omega))
          case ra1 =>
          try simp only [Act.put, List.setIfInBounds_toArray, List.set_cons_zero, List.set_cons_succ, List.getElem_toArray, List.getElem_cons_zero, List.getElem_cons_succ]
          refine wpAnyH_take (i := 1) (v := .int .i64 ((k : Int))) rfl (by kernel_rfl) (by kernel_rfl) (by kernel_rfl) (fun _ _ _ h => h) (Or.inl ⟨by rfl, ?ya2⟩) (by assumption) ?ra2
          case ya2 => (intro wq hSw; (try simp only [List.getElem_toArray, List.getElem_cons_zero, List.getElem_cons_succ]); go_simp; (try with_reducible rfl); all_goals (try omega))
          case ra2 =>
          try simp only [Act.put, List.setIfInBounds_toArray, List.set_cons_zero, List.set_cons_succ, List.getElem_toArray, List.getElem_cons_zero, List.getElem_cons_succ]
          refine wpAnyH_take (i := 2) (v := .pointer (some ⟨g1, k, none⟩)) rfl (by kernel_rfl) (by kernel_rfl) (by kernel_rfl) (fun _ _ _ h => h) (Or.inl ⟨by rfl, ?ya3⟩) (by assumption) ?ra3
          case ya3 => (intro wq hSw; (try simp only [List.getElem_toArray, List.getElem_cons_zero, List.getElem_cons_succ]); go_simp; (try with_reducible rfl); all_goals (try omega))
          case ra3 =>
          try simp only [Act.put, List.setIfInBounds_toArray, List.set_cons_zero, List.set_cons_succ, List.getElem_toArray, List.getElem_cons_zero, List.getElem_cons_succ]
          refine wpAnyH_take (i := 3) (v := .int .i64 y) rfl (by kernel_rfl) (by kernel_rfl) (by kernel_rfl) (fun _ _ _ h => h) (Or.inl ⟨by rfl, ?ya4⟩) (by assumption) ?ra4
          case ya4 => (intro wq hSw; have z := hSw.1; (try simp only [List.getElem_toArray, List.getElem_cons_zero, List.getElem_cons_succ]); go_simp)
          case ra4 =>
          try simp only [Act.put, List.setIfInBounds_toArray, List.set_cons_zero, List.set_cons_succ, List.getElem_toArray, List.getElem_cons_zero, List.getElem_cons_succ]
          refine wpAnyH_take (i := 4) (v := .slice (some ⟨g2, 0, none⟩) p2 cp2) rfl (by kernel_rfl) (by kernel_rfl) (by kernel_rfl) (fun _ _ _ h => h) (Or.inl ⟨by rfl, ?ya5⟩) (by assumption) ?ra5
          case ya5 => (intro wq hSw; (try simp only [List.getElem_toArray, List.getElem_cons_zero, List.getElem_cons_succ]); go_simp; (try with_reducible rfl); all_goals (try omega))
          case ra5 =>
          try simp only [Act.put, List.setIfInBounds_toArray, List.set_cons_zero, List.set_cons_succ, List.getElem_toArray, List.getElem_cons_zero, List.getElem_cons_succ]
          refine wpAnyH_take (i := 5) (v := .int .i64 ((k : Int))) rfl (by kernel_rfl) (by kernel_rfl) (by kernel_rfl) (fun _ _ _ h => h) (Or.inl ⟨by rfl, ?ya6⟩) (by assumption) ?ra6
          case ya6 => (intro wq hSw; (try simp only [List.getElem_toArray, List.getElem_cons_zero, List.getElem_cons_succ]); go_simp; (try with_reducible rfl); all_goals (try omega))
          case ra6 =>
          try simp only [Act.put, List.setIfInBounds_toArray, List.set_cons_zero, List.set_cons_succ, List.getElem_toArray, List.getElem_cons_zero, List.getElem_cons_succ]
          refine wpAnyH_take (i := 6) (v := .pointer (some ⟨g2, k, none⟩)) rfl (by kernel_rfl) (by kernel_rfl) (by kernel_rfl) (fun _ _ _ h => h) (Or.inl ⟨by rfl, ?ya7⟩) (by assumption) ?ra7
          case ya7 => (intro wq hSw; (try simp only [List.getElem_toArray, List.getElem_cons_zero, List.getElem_cons_succ]); go_simp; (try with_reducible rfl); all_goals (try omega))
          case ra7 =>
          try simp only [Act.put, List.setIfInBounds_toArray, List.set_cons_zero, List.set_cons_succ, List.getElem_toArray, List.getElem_cons_zero, List.getElem_cons_succ]
          refine wpAnyH_take (i := 7) (v := .int .i64 y) rfl (by kernel_rfl) (by kernel_rfl) (by kernel_rfl) (fun _ _ _ h => h) (Or.inl ⟨by rfl, ?ya8⟩) (by assumption) ?ra8
          case ya8 => (intro wq hSw; have z := hSw.2; (try simp only [List.getElem_toArray, List.getElem_cons_zero, List.getElem_cons_succ]); go_simp)
          case ra8 =>
          try simp only [Act.put, List.setIfInBounds_toArray, List.set_cons_zero, List.set_cons_succ, List.getElem_toArray, List.getElem_cons_zero, List.getElem_cons_succ]
          refine wpAnyH_take (i := 8) (v := .bool false) rfl (by kernel_rfl) (by kernel_rfl) (by kernel_rfl) (fun _ _ _ h => h) (Or.inl ⟨by rfl, ?ya9⟩) (by assumption) ?ra9
          case ya9 => (intro wq hSw; (try simp only [List.getElem_toArray, List.getElem_cons_zero, List.getElem_cons_succ]); go_simp; (try with_reducible rfl); all_goals (try omega))
          case ra9 =>
          try simp only [Act.put, List.setIfInBounds_toArray, List.set_cons_zero, List.set_cons_succ, List.getElem_toArray, List.getElem_cons_zero, List.getElem_cons_succ]
          refine wpAnyH_done (by kernel_rfl) ?_ _
          clear hHeld
          go_wp2_with fail
          go_roundw
          case rel => exact ⟨k + 1, by omega, by go_num, HT.out.drew⟩
          case measure => simp [intOf]; omega
        · have hke : k = p2 := by omega
          subst hke
          have dk : decide ((k : Int) < (k : Int)) = false := decide_eq_false (by omega)
          go_wp2_with fail
          refine (touched_any wr _ [] (.inl ⟨rfl, rfl⟩) (by decide)).mono ?_
          rintro r w9 ⟨v9, rfl, hv9, t9⟩
          have h0 : (touchE []).length = 0 := by
            cases h : touchE [] with
            | nil => rfl
            | cons a l =>
              have := (touch_mem [] a).1 (by rw [h]; simp)
              obtain ⟨d, hd, _⟩ := this
              cases hd
          rw [h0] at hv9
          obtain ⟨a9, c9, rfl⟩ := own_slice3 hv9
          have T9 := Lib.hid ((T8.out.trans HT.out (fun _ _ => id)).trans t9 (fun _ _ => id))
          clear hv9 t9 h0
          go_wp2_with fail
          go_ret
          exact ⟨rfl, T9.out⟩

end Go.Proofs.Ytkciaafkhpjnaaa
