/- Own texts, packed: L5. No statement is proved here. -/
import Derived.Test.YtkciaafkhpjnaaaQ39
import Derived.Test.YtkciaafkhpjnaaaQ20
import Derived.Deep.RegionHeld3
namespace Go.Proofs.Ytkciaafkhpjnaaa
set_option maxRecDepth 100000
open Go.RowKit
set_option linter.unusedVariables false
set_option linter.unusedSimpArgs false

theorem cnt_le (a b : List El) (nr : Int) : cntE a b nr ≤ 9 := by
  unfold cntE
  split
  · exact setsUpto_len _ _ 9
  · omega
  · omega
theorem sum_take_succ (l : List Int) (c : Int → Nat) (i : Nat) (hi : i < l.length) : ((l.take (i + 1)).map c).sum = ((l.take i).map c).sum + c (l.getD i 0) := by
  rw [List.take_succ_eq_append_getElem hi, List.map_append, List.sum_append]
  simp [List.getD, hi]
theorem sum_take_le (l : List Int) (c : Int → Nat) (h : ∀ x, c x ≤ 9) : ∀ i, ((l.take i).map c).sum ≤ 9 * i := by
  intro i
  induction i with
  | zero => simp
  | succ i ih =>
    by_cases hi : i < l.length
    · rw [sum_take_succ l c i hi]; have := h (l.getD i 0); omega
    · rw [List.take_of_length_le (by omega)]
      rw [List.take_of_length_le (by omega)] at ih
      omega
theorem ids_len (L : List (List El)) : (idsU L).length ≤ L.flatten.length := by
  unfold idsU
  refine Nat.le_trans (compact_len _) ?_
  rw [List.length_mergeSort, List.length_map]
  exact Nat.le_refl _
theorem up_nodup {l : List Int} (h : Up l) : l.Nodup := h.imp (fun {a b} hab e => by omega)
theorem ids2_mem (X Y : List El) (nr : Int) : nr ∈ idsU [X, Y] ↔ hasB X nr = true ∨ hasB Y nr = true := by
  rw [idsU_mem]
  simp
theorem sum2 (X Y : List El) (hx : X.length ≤ 40) (hy : Y.length ≤ 40) (j : Nat) : sumL [X, Y] j ≤ 10000 := by
  have h1 := sumL_mono [X, Y] j
  have h2 : sumL [X, Y] [X, Y].length = X.length + Y.length := by simp [sumL]
  omega
set_option maxHeartbeats 16000000 in
theorem counts_law (W : World) (v0 v1 : Value) (n0 n1 : List A4) (h0 : ActsV W v0 n0) (h1 : ActsV W v1 n1) : Calls Try.prog 7 #[v0, v1] W fun e w' => e = .returned (.bool true) ∧ Turn (fun _ => False) W w' := by
  obtain ⟨la, lc, rfl⟩ := h0.form
  obtain ⟨n, hn⟩ : ∃ n, n0.length = n := ⟨_, rfl⟩
  obtain ⟨ma, mc, rfl⟩ := h1.form
  obtain ⟨m, hm⟩ : ∃ m, n1.length = m := ⟨_, rfl⟩
  rw [hn] at h0
  rw [hm] at h1
  simp only [hn, hm]
  have H0 := Lib.hid h0
  have H1 := Lib.hid h1
  have HN := Lib.hid hn
  have HM := Lib.hid hm
  clear h0 h1 hn hm
  go_enter Try.func7, Try.ntmps7
  go_wp2_with fail
  refine (awake_any W).mono ?_
  rintro r w1 ⟨rfl, t1⟩
  have T1 := Lib.hid t1
  clear t1
  by_cases hb0 : 24 < n
  · have db0 : decide (24 < (n : Int)) = true := decide_eq_true (by omega)
    go_wp2_with fail
    refine (awake_any w1).mono ?_
    rintro r w2 ⟨rfl, t2⟩
    go_wp2_with fail
    go_ret
    exact ⟨rfl, T1.out.trans t2 (fun _ _ => id)⟩
  · have db0 : decide (24 < (n : Int)) = false := decide_eq_false (by omega)
    by_cases hb1 : 24 < m
    · have db1 : decide (24 < (m : Int)) = true := decide_eq_true (by omega)
      go_wp2_with fail
      refine (awake_any w1).mono ?_
      rintro r w2 ⟨rfl, t2⟩
      go_wp2_with fail
      go_ret
      exact ⟨rfl, T1.out.trans t2 (fun _ _ => id)⟩
    · have db1 : decide (24 < (m : Int)) = false := decide_eq_false (by omega)
      go_wp2_with fail
      refine (make_any w1 _ n0 (H0.out.turn T1.out) (by rw [HN.out]; omega)).mono ?_
      rintro r w2 ⟨vx, rfl, hx, t2⟩
      have T2 := Lib.hid (T1.out.trans t2 (fun _ _ => id))
      have HX2 := Lib.hid hx
      clear t2 hx
      go_wp2_with fail
      refine (make_any w2 _ n1 (H1.out.turn T2.out) (by rw [HM.out]; omega)).mono ?_
      rintro r w4 ⟨vy, rfl, hy, t3⟩
      have T4 := Lib.hid (T2.out.trans t3 (fun _ _ => id))
      have HX4 := Lib.hid (HX2.out.turn t3 (fun _ _ => id))
      have HY4 := Lib.hid hy
      clear t3 hy
      have GX := Lib.hid (good_makeE n0)
      have GY := Lib.hid (good_makeE n1)
      obtain ⟨X, hX⟩ : ∃ X, makeE n0 = X := ⟨_, rfl⟩
      obtain ⟨Y, hY⟩ : ∃ Y, makeE n1 = Y := ⟨_, rfl⟩
      rw [hX] at HX4 GX
      rw [hY] at HY4 GY
      clear hX hY HX2
      obtain ⟨L, hd1, hd2⟩ := diff_leads GX.out.good GY.out.good
      have HDL := Lib.hid hd1
      have HNL := Lib.hid (show L.length ≤ 440 by have := diffE_len GX.out GY.out; rw [hd1] at this; exact this)
      clear hd1 hd2
      go_wp2_with fail
      refine (dif_any w4 _ _ X Y HX4.out HY4.out GX.out.kok GY.out.kok GX.out.iok GY.out.iok (by have := GX.out.len; omega) (by have := GY.out.len; omega)).mono ?_
      rintro r w5 ⟨v5, rfl, hv5, t5⟩
      rw [HDL.out] at hv5 ⊢
      obtain ⟨q, hq⟩ : ∃ q, L.length = q := ⟨_, rfl⟩
      obtain ⟨aq, cq, rfl⟩ : ∃ x y, v5 = .slice x q y := by rw [← hq]; exact hv5.form
      have T5 := Lib.hid (T4.out.trans t5 (fun _ _ => id))
      have tw5 := t5
      have HE5 := Lib.hid (show EdV w5 (.slice aq q cq) L from hv5)
      have HQq := Lib.hid hq
      clear hv5 t5 hq
      have HX5 := Lib.hid (HX4.out.turn tw5 (fun _ _ => id))
      have HY5 := Lib.hid (HY4.out.turn tw5 (fun _ _ => id))
      clear tw5
      obtain ⟨nx, hnx⟩ : ∃ k, X.length = k := ⟨_, rfl⟩
      obtain ⟨ny, hny⟩ : ∃ k, Y.length = k := ⟨_, rfl⟩
      obtain ⟨xa, xc, rfl⟩ : ∃ a c, vx = .slice a nx c := by rw [← hnx]; exact HX5.out.form
      obtain ⟨ya, yc, rfl⟩ : ∃ a c, vy = .slice a ny c := by rw [← hny]; exact HY5.out.form
      have HNX := Lib.hid hnx
      have HNY := Lib.hid hny
      have HLN := Lib.hid (show X.length ≤ 40 ∧ Y.length ≤ 40 from ⟨GX.out.len, GY.out.len⟩)
      clear hnx hny
      obtain ⟨G, hG⟩ : ∃ G, w5.heap.size = G := ⟨_, rfl⟩
      obtain ⟨w6, hw6⟩ : ∃ w6, w5.alloc (.cells #[.slice xa nx xc, .slice ya ny yc] 25) = w6 := ⟨_, rfl⟩
      have hb6 := box_alloc w5 25 [.slice xa nx xc, .slice ya ny yc]
      have hmv := many2 hb6 HX5.out HY5.out
      rw [show w5.alloc (.cells [Value.slice xa nx xc, .slice ya ny yc].toArray 25) = w6 from hw6, hG] at hmv
      have hxb : ∀ ev op x y, op.op = .buildSlice 48 2 #[(0, x), (1, y)] → ev x = .slice xa nx xc → ev y = .slice ya ny yc → (execOp ev op).run Try.prog w5 = .ok (.value (.slice (some ⟨G, 0, none⟩) 2 2)) w6 := fun ev op x y ho h1 h2 => by rw [← hw6, ← hG]; exact exec_build2 ev op x y ho _ _ _ _ _ _ h1 h2 w5
      have t6 : Turn (fun _ => False) w5 w6 := by rw [← hw6]; exact (Turn.refl (fun _ => False) w5).alloc _
      have T6 := Lib.hid (T5.out.trans t6 (fun _ _ => id))
      have TT6 := Lib.hid t6
      have HXB := Lib.hid hxb
      have HMV := Lib.hid hmv
      clear hG hw6 hb6 hmv hxb t6
      go_wp2_with (with_reducible (show wpList _ _ _ (Oper.mk (some 40) (.buildSlice 48 _ _) _ _ _ _ :: _) _ _); refine still ?_)
      refine list_exec rfl _ _ (HXB.out _ _ (.tmp 38) (.tmp 39) rfl rfl rfl) ?_
      go_wp2_with fail
      refine (rids_any w6 G 2 _ [X, Y] 2 rfl (Nat.le_refl _) HMV.out (by omega) (sum2 X Y HLN.out.1 HLN.out.2)).mono ?_
      rintro r w7 ⟨v7, rfl, o7, t7⟩
      have HUP := Lib.hid (idsU_up [X, Y])
      have HUM := Lib.hid (ids2_mem X Y)
      have HUL := Lib.hid (show (idsU [X, Y]).length ≤ 80 by have := ids_len [X, Y]; have := HLN.out; simp at *; omega)
      obtain ⟨U, hU⟩ : ∃ U, idsU [X, Y] = U := ⟨_, rfl⟩
      rw [hU] at o7 HUP HUM HUL
      obtain ⟨p, hp⟩ : ∃ p, U.length = p := ⟨_, rfl⟩
      rw [hp] at o7 HUL
      obtain ⟨ap, cp, rfl⟩ := own_slice3 o7
      have HU7 := Lib.hid o7
      have HPU := Lib.hid hp
      have T7 := Lib.hid (T6.out.trans t7 (fun _ _ => id))
      have HX7 := Lib.hid ((HX5.out.turn TT6.out (fun _ _ => id)).turn t7 (fun _ _ => id))
      have HY7 := Lib.hid ((HY5.out.turn TT6.out (fun _ _ => id)).turn t7 (fun _ _ => id))
      have TT7 := Lib.hid (TT6.out.trans t7 (fun _ _ => id))
      clear hU hp o7 t7 TT6 HMV HXB
      have HCN := Lib.hid (show q = (U.map (cntE X Y)).sum from by
        have h := diff_count GX.out.good GY.out.good (up_nodup HUP.out) HUM.out
        rw [HDL.out] at h
        have := HQq.out
        simp only at h
        omega)
      go_wp2_with fail
      go_loopw [9, 11] (fun nv iv ws => ∃ i : Nat, i ≤ p ∧ iv = .int .i64 (i : Int) ∧ nv = .int .i64 ((((U.take i).map (cntE X Y)).sum : Nat) : Int) ∧ Turn (fun _ => False) w7 ws) (fun _ iv _ => p - (intOf iv).toNat)
      case atStart => exact ⟨0, Nat.zero_le _, rfl, rfl, Turn.refl _ _⟩
      case round =>
        obtain ⟨i, hip, rfl, rfl, ht⟩ := hrel
        have HT := Lib.hid ht
        clear ht
        by_cases hlt : i < p
        · have gk : (0 : Int) ≤ (i : Int) ∧ (i : Int) < (p : Int) := by omega
          have dk : decide ((i : Int) < (p : Int)) = true := decide_eq_true (by omega)
          obtain ⟨g1, rfl, hc1, e1⟩ := int_at (HT.out.owns HU7.out (fun _ _ => id)) HPU.out i hlt
          have hsu := sum_take_succ U (cntE X Y) i (by rw [HPU.out]; exact hlt)
          have hsl := sum_take_le U (cntE X Y) (cnt_le X Y) i
          have hmem : U.getD i 0 ∈ U := by have := HPU.out; simp [List.getD, show i < U.length by omega]
          obtain ⟨nr, hnr⟩ : ∃ y, U.getD i 0 = y := ⟨_, rfl⟩
          rw [hnr] at e1 hsu hmem
          obtain ⟨s, hs⟩ : ∃ s, ((U.take i).map (cntE X Y)).sum = s := ⟨_, rfl⟩
          rw [hs] at hsu hsl ⊢
          have hlu := HUL.out
          have hsb : s ≤ 720 := by omega
          have hi80 : i < 80 := by omega
          have HSU := Lib.hid hsu
          have HME := Lib.hid ((HUM.out nr).1 hmem)
          clear hsu hsl hnr hs hlu hmem
          go_wp2_with fail
          refine (rfind2 wr _ X nr (HX7.out.turn HT.out (fun _ _ => id)) GX.out.rises (by have := HLN.out; omega)).mono ?_
          rintro r wy ⟨rfl, k1, rfl, hk1⟩
          have HK1 := Lib.hid hk1
          clear hk1
          go_wp2_with fail
          refine (rfind2 wr _ Y nr (HY7.out.turn HT.out (fun _ _ => id)) GY.out.rises (by have := HLN.out; omega)).mono ?_
          rintro r wy ⟨rfl, k2, rfl, hk2⟩
          have HK2 := Lib.hid hk2
          clear hk2 e1
          rcases HK1.out with ⟨j1, hj1, rfl, hg1⟩ | ⟨rfl, hg1⟩
          · have d1 : decide ((j1 : Int) < 0) = false := decide_eq_false (by omega)
            have HG1 := Lib.hid hg1
            rcases HK2.out with ⟨j2, hj2, rfl, hg2⟩ | ⟨rfl, hg2⟩
            · have d2 : decide ((j2 : Int) < 0) = false := decide_eq_false (by omega)
              have HCC := Lib.hid (show cntE X Y nr = (setsUpto (X.getD j1 el0) (Y.getD j2 el0) 9).length by unfold cntE; rw [hg1, hg2]; rfl)
              have HKX := Lib.hid (GX.out.kok _ (getE_some hg1).1)
              have HKY := Lib.hid (GY.out.kok _ (getE_some hg2).1)
              rw [HNX.out] at hj1
              rw [HNY.out] at hj2
              clear hg1 hg2 HK1 HK2 HG1
              obtain ⟨gx, ox, rfl, hcx, hsx⟩ := HX7.out.one HNX.out j1 hj1
              obtain ⟨gy, oy, rfl, hcy, hsy⟩ := HY7.out.one HNY.out j2 hj2
              have gk1 : (0 : Int) ≤ (j1 : Int) ∧ (j1 : Int) < (nx : Int) := by omega
              have gk2 : (0 : Int) ≤ (j2 : Int) ∧ (j2 : Int) < (ny : Int) := by omega
              obtain ⟨x, hx⟩ : ∃ x, X.getD j1 el0 = x := ⟨_, rfl⟩
              obtain ⟨y, hy⟩ : ∃ y, Y.getD j2 el0 = y := ⟨_, rfl⟩
              rw [hx] at hsx HKX HCC
              rw [hy] at hsy HKY HCC
              have HSX7 := Lib.hid hsx
              have HSY7 := Lib.hid hsy
              clear hx hy hsx hsy
              go_wp2_with fail
              go_loopw [9, 14] (fun nv fv ws => ∃ f : Nat, f ≤ 9 ∧ fv = .int .i64 (f : Int) ∧ nv = .int .i64 ((s + (setsUpto x y f).length : Nat) : Int) ∧ Turn (fun _ => False) w7 ws) (fun _ fv _ => 9 - (intOf fv).toNat)
              case atStart => exact ⟨0, by omega, rfl, by simp [setsUpto], HT.out⟩
              case round =>
                obtain ⟨f, hf9, rfl, rfl, ht3⟩ := hrel
                have HT3 := Lib.hid ht3
                clear ht3
                by_cases hlf : f < 9
                · have df : decide ((f : Int) < 9) = true := decide_eq_true (by omega)
                  have hsu := setsUpto_succ x y f
                  have hsl := setsUpto_len x y f
                  obtain ⟨pf, hpf⟩ : ∃ b, partF x y f = b := ⟨_, rfl⟩
                  rw [hpf] at hsu
                  obtain ⟨z, hz⟩ : ∃ z, (setsUpto x y f).length = z := ⟨_, rfl⟩
                  have hsu2 : (setsUpto x y (f + 1)).length = if pf = true then z + 1 else z := by rw [hsu]; split <;> simp [hz]
                  rw [hz] at hsl ⊢
                  have HPF := Lib.hid hpf
                  have HSV := Lib.hid hsu2
                  clear hsu hpf hz hsu2
                  obtain ⟨wx, hwx⟩ : ∃ wx, wr.drew = wx := ⟨_, rfl⟩
                  have hdx : Turn (fun _ => False) wr wx := by rw [← hwx]; exact (Turn.refl (fun _ => False) wr).drew
                  have T3 := Lib.hid (HT3.out.trans hdx (fun _ _ => id))
                  have HSX := Lib.hid (rangeAt_turn HSX7.out T3.out id)
                  have HSY := Lib.hid (rangeAt_turn HSY7.out T3.out id)
                  have HWX := Lib.hid hwx
                  clear hdx hwx
                  go_wp2_with fail
                  refine wp_region_held_drew (S := fun wq => wq.rangeAt gx (ox + j1 * 10) x.vals ∧ wq.rangeAt gy (oy + j2 * 10) y.vals) (by kernel_rfl) (by rw [HWX.out]; exact ⟨HSX.out, HSY.out⟩) (fun hHeld => ?_)
                  rw [HWX.out] at hHeld ⊢
                  refine wpAnyH_take (i := 0) (v := .slice (some ⟨gx, ox, none⟩) nx xc) rfl (by kernel_rfl) (by kernel_rfl) (by kernel_rfl) (fun _ _ _ h => h) (Or.inl ⟨by rfl, ?ya1⟩) (by assumption) ?ra1
                  case ya1 => (intro wq hSw; (try simp only [List.getElem_toArray, List.getElem_cons_zero, List.getElem_cons_succ]); go_simp; (try with_reducible rfl); all_goals (try omega))
                  case ra1 =>
                  try simp only [Act.put, List.setIfInBounds_toArray, List.set_cons_zero, List.set_cons_succ, List.getElem_toArray, List.getElem_cons_zero, List.getElem_cons_succ]
                  refine wpAnyH_take (i := 1) (v := .int .i64 ((j1 : Int))) rfl (by kernel_rfl) (by kernel_rfl) (by kernel_rfl) (fun _ _ _ h => h) (Or.inl ⟨by rfl, ?ya2⟩) (by assumption) ?ra2
                  case ya2 => (intro wq hSw; (try simp only [List.getElem_toArray, List.getElem_cons_zero, List.getElem_cons_succ]); go_simp; (try with_reducible rfl); all_goals (try omega))
                  case ra2 =>
                  try simp only [Act.put, List.setIfInBounds_toArray, List.set_cons_zero, List.set_cons_succ, List.getElem_toArray, List.getElem_cons_zero, List.getElem_cons_succ]
                  refine wpAnyH_take (i := 2) (v := .pointer (some ⟨gx, ox + j1 * 10, none⟩)) rfl (by kernel_rfl) (by kernel_rfl) (by kernel_rfl) (fun _ _ _ h => h) (Or.inl ⟨by rfl, ?ya3⟩) (by assumption) ?ra3
                  case ya3 => (intro wq hSw; (try simp only [List.getElem_toArray, List.getElem_cons_zero, List.getElem_cons_succ]); go_simp; (try with_reducible rfl); all_goals (try omega))
                  case ra3 =>
                  try simp only [Act.put, List.setIfInBounds_toArray, List.set_cons_zero, List.set_cons_succ, List.getElem_toArray, List.getElem_cons_zero, List.getElem_cons_succ]
                  refine wpAnyH_take (i := 3) (v := .agg x.vals.toArray) rfl (by kernel_rfl) (by kernel_rfl) (by kernel_rfl) (fun _ _ _ h => h) (Or.inl ⟨by rfl, ?ya4⟩) (by assumption) ?ra4
                  case ya4 => (intro wq hSw; exact exec_load_mid _ _ 38 (.tmp 74) rfl gx (ox + j1 * 10) rfl x.vals _ _ hSw.1 Try.underlying38 rfl el_info)
                  case ra4 =>
                  try simp only [Act.put, List.setIfInBounds_toArray, List.set_cons_zero, List.set_cons_succ, List.getElem_toArray, List.getElem_cons_zero, List.getElem_cons_succ]
                  refine wpAnyH_take (i := 4) (v := .int .i64 ((f : Int))) rfl (by kernel_rfl) (by kernel_rfl) (by kernel_rfl) (fun _ _ _ h => h) (Or.inl ⟨by rfl, ?ya5⟩) (by assumption) ?ra5
                  case ya5 => (intro wq hSw; (try simp only [List.getElem_toArray, List.getElem_cons_zero, List.getElem_cons_succ]); go_simp; (try with_reducible rfl); all_goals (try omega))
                  case ra5 =>
                  try simp only [Act.put, List.setIfInBounds_toArray, List.set_cons_zero, List.set_cons_succ, List.getElem_toArray, List.getElem_cons_zero, List.getElem_cons_succ]
                  refine wpAnyH_take (i := 6) (v := .slice (some ⟨gy, oy, none⟩) ny yc) rfl (by kernel_rfl) (by kernel_rfl) (by kernel_rfl) (fun _ _ _ h => h) (Or.inl ⟨by rfl, ?ya6⟩) (by assumption) ?ra6
                  case ya6 => (intro wq hSw; (try simp only [List.getElem_toArray, List.getElem_cons_zero, List.getElem_cons_succ]); go_simp; (try with_reducible rfl); all_goals (try omega))
                  case ra6 =>
                  try simp only [Act.put, List.setIfInBounds_toArray, List.set_cons_zero, List.set_cons_succ, List.getElem_toArray, List.getElem_cons_zero, List.getElem_cons_succ]
                  refine wpAnyH_take (i := 7) (v := .int .i64 ((j2 : Int))) rfl (by kernel_rfl) (by kernel_rfl) (by kernel_rfl) (fun _ _ _ h => h) (Or.inl ⟨by rfl, ?ya7⟩) (by assumption) ?ra7
                  case ya7 => (intro wq hSw; (try simp only [List.getElem_toArray, List.getElem_cons_zero, List.getElem_cons_succ]); go_simp; (try with_reducible rfl); all_goals (try omega))
                  case ra7 =>
                  try simp only [Act.put, List.setIfInBounds_toArray, List.set_cons_zero, List.set_cons_succ, List.getElem_toArray, List.getElem_cons_zero, List.getElem_cons_succ]
                  refine wpAnyH_take (i := 8) (v := .pointer (some ⟨gy, oy + j2 * 10, none⟩)) rfl (by kernel_rfl) (by kernel_rfl) (by kernel_rfl) (fun _ _ _ h => h) (Or.inl ⟨by rfl, ?ya8⟩) (by assumption) ?ra8
                  case ya8 => (intro wq hSw; (try simp only [List.getElem_toArray, List.getElem_cons_zero, List.getElem_cons_succ]); go_simp; (try with_reducible rfl); all_goals (try omega))
                  case ra8 =>
                  try simp only [Act.put, List.setIfInBounds_toArray, List.set_cons_zero, List.set_cons_succ, List.getElem_toArray, List.getElem_cons_zero, List.getElem_cons_succ]
                  refine wpAnyH_take (i := 9) (v := .agg y.vals.toArray) rfl (by kernel_rfl) (by kernel_rfl) (by kernel_rfl) (fun _ _ _ h => h) (Or.inl ⟨by rfl, ?ya9⟩) (by assumption) ?ra9
                  case ya9 => (intro wq hSw; exact exec_load_mid _ _ 38 (.tmp 80) rfl gy (oy + j2 * 10) rfl y.vals _ _ hSw.2 Try.underlying38 rfl el_info)
                  case ra9 =>
                  try simp only [Act.put, List.setIfInBounds_toArray, List.set_cons_zero, List.set_cons_succ, List.getElem_toArray, List.getElem_cons_zero, List.getElem_cons_succ]
                  refine wpAnyH_take (i := 10) (v := .int .i64 ((f : Int))) rfl (by kernel_rfl) (by kernel_rfl) (by kernel_rfl) (fun _ _ _ h => h) (Or.inl ⟨by rfl, ?ya10⟩) (by assumption) ?ra10
                  case ya10 => (intro wq hSw; (try simp only [List.getElem_toArray, List.getElem_cons_zero, List.getElem_cons_succ]); go_simp; (try with_reducible rfl); all_goals (try omega))
                  case ra10 =>
                  try simp only [Act.put, List.setIfInBounds_toArray, List.set_cons_zero, List.set_cons_succ, List.getElem_toArray, List.getElem_cons_zero, List.getElem_cons_succ]
                  refine wpAnyH_ready (rs := [5]) (by kernel_rfl) (by simp) ?_
                  refine AllReadyH.cons rfl (fun K hK => ?_) AllReadyH.nil
                  go_simp
                  refine (value_any wx x (f : Int) HKX.out).mono ?_
                  rintro r5 wp ⟨rfl, t5⟩
                  have T4b := Lib.hid (T3.out.trans t5 (fun _ _ => id))
                  have HSX1 := Lib.hid (rangeAt_turn HSX.out t5 id)
                  have HSY1 := Lib.hid (rangeAt_turn HSY.out t5 id)
                  clear t5
                  refine hK.out _ _ ⟨HSX1.out, HSY1.out⟩ (fun _ => ?_)
                  clear hK K
                  try simp only [Act.put, List.setIfInBounds_toArray, List.set_cons_zero, List.set_cons_succ, List.getElem_toArray, List.getElem_cons_zero, List.getElem_cons_succ]
                  refine wpAnyH_ready (rs := [11]) (by kernel_rfl) (by simp) ?_
                  refine AllReadyH.cons rfl (fun K hK => ?_) AllReadyH.nil
                  go_simp
                  refine (value_any wp y (f : Int) HKY.out).mono ?_
                  rintro r11 wq1 ⟨rfl, t5⟩
                  have T5 := Lib.hid (T4b.out.trans t5 (fun _ _ => id))
                  refine hK.out _ _ ⟨rangeAt_turn HSX1.out t5 id, rangeAt_turn HSY1.out t5 id⟩ (fun _ => ?_)
                  clear t5
                  clear hK K
                  try simp only [Act.put, List.setIfInBounds_toArray, List.set_cons_zero, List.set_cons_succ, List.getElem_toArray, List.getElem_cons_zero, List.getElem_cons_succ]
                  refine wpAnyH_take (i := 12) (v := .bool pf) rfl (by kernel_rfl) (by kernel_rfl) (by kernel_rfl) (fun _ _ _ h => h) (Or.inl ⟨by rfl, ?yq1⟩) (by assumption) ?rq1
                  case yq1 => (intro wq hSw; rw [← HPF.out]; exact exec_neq_vl _ _ rfl _ _ _ _ _ rfl rfl)
                  case rq1 =>
                  try simp only [Act.put, List.setIfInBounds_toArray, List.set_cons_zero, List.set_cons_succ, List.getElem_toArray, List.getElem_cons_zero, List.getElem_cons_succ]
                  refine wpAnyH_done (by kernel_rfl) ?_ _
                  clear hHeld
                  cases pf
                  · go_wp2_with fail
                    go_roundw
                    case rel => exact ⟨f + 1, by omega, by go_num, by rw [HSV.out, if_neg (by decide)]; go_num, T5.out⟩
                    case measure => simp [intOf]; omega
                  · go_wp2_with fail
                    go_roundw
                    case rel => exact ⟨f + 1, by omega, by go_num, by rw [HSV.out, if_pos rfl]; go_num, T5.out⟩
                    case measure => simp [intOf]; omega
                · have hfe : f = 9 := by omega
                  subst hfe
                  have df : decide ((9 : Int) < 9) = false := by decide
                  have hc := HCC.out
                  have hc9 := setsUpto_len x y 9
                  go_wp2_with fail
                  go_roundw
                  case rel => exact ⟨i + 1, by omega, by go_num, by rw [HSU.out, HCC.out], HT3.out⟩
                  case measure => simp [intOf]; omega
            · have HCC := Lib.hid (show cntE X Y nr = 1 by unfold cntE; rw [hg1, hg2])
              have d2 : decide ((-1 : Int) < 0) = true := by decide
              clear hg1 hg2 HK1 HK2 HG1
              go_wp2_with fail
              go_roundw
              case rel => exact ⟨i + 1, by omega, by go_num, by rw [HSU.out, HCC.out]; go_num, HT.out⟩
              case measure => simp [intOf]; omega
          · have HCC := Lib.hid (show cntE X Y nr = 1 by
              unfold cntE
              rw [hg1]
              rcases HK2.out with ⟨j2, hj2, _, hg2⟩ | ⟨_, hg2⟩
              · rw [hg2]
              · rcases HME.out with h | h
                · unfold hasB at h; rw [hg1] at h; cases h
                · unfold hasB at h; rw [hg2] at h; cases h)
            have d1 : decide ((-1 : Int) < 0) = true := by decide
            clear hg1 HK1 HK2
            go_wp2_with fail
            go_roundw
            case rel => exact ⟨i + 1, by omega, by go_num, by rw [HSU.out, HCC.out]; go_num, HT.out⟩
            case measure => simp [intOf]; omega
        · have hie : i = p := by omega
          subst hie
          have dk : decide ((i : Int) < (i : Int)) = false := decide_eq_false (by omega)
          have hsu : ((U.take i).map (cntE X Y)).sum = q := by rw [List.take_of_length_le (by rw [HPU.out]; omega)]; exact HCN.out.symm
          rw [hsu]
          clear hsu
          have dq : ((q : Int) == (q : Int)) = true := by simp
          go_wp2_with fail
          go_ret
          exact ⟨rfl, T7.out.trans HT.out (fun _ _ => id)⟩

end Go.Proofs.Ytkciaafkhpjnaaa
