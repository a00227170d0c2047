/- Own texts, packed: L2. No statement is proved here. -/
import Derived.Test.YtkciaafkhpjnaaaQ35
import Derived.Test.YtkciaafkhpjnaaaQ43
namespace Go.Proofs.Ytkciaafkhpjnaaa
set_option maxRecDepth 100000
open Go.RowKit
set_option linter.unusedVariables false
set_option linter.unusedSimpArgs false

theorem wr_in (n : Int) (h : -9223372036854775808 ≤ n ∧ n ≤ 9223372036854775807) : wrap64 n = n := by unfold wrap64; omega
theorem small12 (n : Int) : 1 ≤ wrap64 (1 + wrap64 ((IntKind.u64.wrap n).tmod 12)) ∧ wrap64 (1 + wrap64 ((IntKind.u64.wrap n).tmod 12)) ≤ 12 := by
  have h0 : 0 ≤ IntKind.u64.wrap n := by simp only [IntKind.wrap, IntKind.bits, IntKind.signed]; simp; omega
  have h1 := Int.tmod_nonneg (12 : Int) h0
  have h2 := Int.tmod_lt_of_pos (IntKind.u64.wrap n) (show (0 : Int) < 12 by decide)
  rw [wr_in ((IntKind.u64.wrap n).tmod 12) (by omega), wr_in _ (by omega)]
  omega
theorem small13 (n : Int) : 0 ≤ wrap64 ((IntKind.u64.wrap n).tmod 13) ∧ wrap64 ((IntKind.u64.wrap n).tmod 13) ≤ 12 := by
  have h0 : 0 ≤ IntKind.u64.wrap n := by simp only [IntKind.wrap, IntKind.bits, IntKind.signed]; simp; omega
  have h1 := Int.tmod_nonneg (13 : Int) h0
  have h2 := Int.tmod_lt_of_pos (IntKind.u64.wrap n) (show (0 : Int) < 13 by decide)
  rw [wr_in ((IntKind.u64.wrap n).tmod 13) (by omega)]
  omega
theorem diffE_len60 (a b : List El) (ha : a.length ≤ 60) (hb : b.length ≤ 60) : (diffE a b).1.length ≤ 100000 := by
  unfold diffE
  split
  · exact Nat.zero_le _
  · split
    · exact Nat.zero_le _
    · have h1 := ord_len b a hb
      have h2 := ord_len a b ha
      have h3 := setsE_len a b
      simp only [List.length_append, List.length_map, List.length_reverse]
      omega
/-- A chart that the two programs may be asked about. -/
structure Fit (w : World) (v : Value) (l : List El) : Prop where
  row : RowV w v l
  kok : KOk l
  iok : IOk l
  len : l.length ≤ 60
set_option maxHeartbeats 16000000 in
theorem dof_law (W : World) (v0 v1 v2 : Value) (n0 n1 : List A4) (a2 : List El) (how : Int) (h0 : ActsV W v0 n0) (h1 : ActsV W v1 n1) (h2 : RowV W v2 a2) (hm2 : a2.length ≤ maxLen) (ho2 : ∀ x ∈ a2, x.Ok) (hw3 : 0 ≤ how ∧ how < 256) : Calls Try.prog 4 #[v0, v1, v2, .int .u8 how] W fun e w' => e = .returned (.bool true) ∧ Turn (fun _ => False) W w' := by
  obtain ⟨la, lc, rfl⟩ := h0.form
  obtain ⟨n, hn⟩ : ∃ n, n0.length = n := ⟨_, rfl⟩
  obtain ⟨ma, mc, rfl⟩ := h1.form
  obtain ⟨m, hm⟩ : ∃ m, n1.length = m := ⟨_, rfl⟩
  obtain ⟨qa, qc, rfl⟩ := h2.form
  obtain ⟨q, hq⟩ : ∃ q, a2.length = q := ⟨_, rfl⟩
  rw [hn] at h0
  rw [hm] at h1
  rw [hq] at h2
  simp only [hn, hm, hq]
  have H0 := Lib.hid h0
  have H1 := Lib.hid h1
  have H2 := Lib.hid h2
  have HN := Lib.hid hn
  have HM := Lib.hid hm
  have HQ := Lib.hid hq
  have HO := Lib.hid ho2
  clear h0 h1 h2 hn hm hq ho2 hm2
  go_enter Try.func4, Try.ntmps4
  go_wp2_with fail
  refine (awake_any W).mono ?_
  rintro r w1 ⟨rfl, t1⟩
  have T1 := Lib.hid t1
  clear t1
  by_cases hb0 : 24 < n
  · have db0 : decide (24 < (n : Int)) = true := decide_eq_true (by omega)
    go_wp2_with fail
    refine (awake_any w1).mono ?_
    rintro r w2 ⟨rfl, t2⟩
    go_wp2_with fail
    go_ret
    exact ⟨rfl, T1.out.trans t2 (fun _ _ => id)⟩
  · have db0 : decide (24 < (n : Int)) = false := decide_eq_false (by omega)
    by_cases hb1 : 24 < m
    · have db1 : decide (24 < (m : Int)) = true := decide_eq_true (by omega)
      go_wp2_with fail
      refine (awake_any w1).mono ?_
      rintro r w2 ⟨rfl, t2⟩
      go_wp2_with fail
      go_ret
      exact ⟨rfl, T1.out.trans t2 (fun _ _ => id)⟩
    · have db1 : decide (24 < (m : Int)) = false := decide_eq_false (by omega)
      by_cases hb2 : 20 < q
      · have db2 : decide (20 < (q : Int)) = true := decide_eq_true (by omega)
        go_wp2_with fail
        refine (awake_any w1).mono ?_
        rintro r w2 ⟨rfl, t2⟩
        go_wp2_with fail
        go_ret
        exact ⟨rfl, T1.out.trans t2 (fun _ _ => id)⟩
      · have db2 : decide (20 < (q : Int)) = false := decide_eq_false (by omega)
        go_wp2_with fail
        refine (make_any w1 _ n0 (H0.out.turn T1.out) (by rw [HN.out]; omega)).mono ?_
        rintro r w2 ⟨vx, rfl, hx, t2⟩
        have T2 := Lib.hid (T1.out.trans t2 (fun _ _ => id))
        have GX := Lib.hid (good_makeE n0)
        obtain ⟨X, hX⟩ : ∃ X, makeE n0 = X := ⟨_, rfl⟩
        rw [hX] at hx GX
        have HX2 := Lib.hid hx
        clear t2 hx hX
        go_wp2_with fail
        refine (change_any w2 _ _ X n1 HX2.out GX.out (H1.out.turn T2.out) (by rw [HM.out]; omega)).mono ?_
        rintro r w4 ⟨vy, Y, rfl, hy, gy, t4⟩
        have T4 := Lib.hid (T2.out.trans t4 (fun _ _ => id))
        have HX4 := Lib.hid (HX2.out.turn t4 (fun _ _ => id))
        have HY4 := Lib.hid hy
        have GY := Lib.hid gy
        clear t4 hy gy HX2
        go_wp2_with fail
        go_loopw [11, 12] (fun zv iv ws => ∃ (i : Nat) (Z : List El), i ≤ q ∧ iv = .int .i64 (i : Int) ∧ RowV ws zv Z ∧ Rises Z ∧ Z.length ≤ i ∧ KOk Z ∧ IOk Z ∧ Turn (fun _ => False) w4 ws) (fun _ iv _ => q - (intOf iv).toNat)
        case atStart => exact ⟨0, [], Nat.zero_le _, rfl, .inl ⟨rfl, rfl⟩, Rises.nil, Nat.le_refl _, (fun _ h => by cases h), (fun _ h => by cases h), Turn.refl _ _⟩
        case round =>
          obtain ⟨i, Z, hiq, rfl, hz, hzr, hzl, hzk, hzi, ht⟩ := hrel
          have HZ := Lib.hid hz
          have HZR := Lib.hid hzr
          have HZK := Lib.hid hzk
          have HZI := Lib.hid hzi
          have HT := Lib.hid ht
          clear hz hzr hzk hzi ht
          by_cases hlt : i < q
          · have gk : (0 : Int) ≤ (i : Int) ∧ (i : Int) < (q : Int) := by omega
            have dk : decide ((i : Int) < (q : Int)) = true := decide_eq_true (by omega)
            obtain ⟨g, o, rfl, hcc, hs⟩ := (H2.out.turn (T4.out.trans HT.out (fun _ _ => id)) (fun _ _ => id)).one HQ.out i hlt
            have hok := HO.out _ (getD_mem (l := a2) (k := i) (by rw [HQ.out]; exact hlt))
            obtain ⟨x, hx⟩ : ∃ x, a2.getD i el0 = x := ⟨_, rfl⟩
            rw [hx] at hs hok
            have HS := Lib.hid hs
            have HOK := Lib.hid hok
            clear hs hok hx
            have hbb := box_alloc wr 38 el0.vals
            obtain ⟨E, hE⟩ : ∃ E, wr.heap.size = E := ⟨_, rfl⟩
            obtain ⟨wz, hwz⟩ : ∃ wz, wr.alloc (.cells el0.vals.toArray 38) = wz := ⟨_, rfl⟩
            have hx0 : ∀ ev op, op.op = .alloc 38 → (execOp ev op).run Try.prog wr = .ok (.value (.pointer (some ⟨E, 0, none⟩))) wz := fun ev op ho => by rw [← hwz, ← hE]; exact exec_zero24 ev op ho _
            rw [hwz] at hbb
            have hhh := hbb.heap
            rw [hE] at hhh
            have HX0 := Lib.hid hx0
            have HBB := Lib.hid hbb.turn
            have HHB := Lib.hid hhh
            have HEE := Lib.hid hE
            clear hbb hE hwz hx0 hhh
            go_wp2_with (with_reducible (show wpList _ _ _ (Oper.mk (some 50) (.load 38 (.tmp 49)) _ _ _ _ :: _) _ _); refine still ?_)
            refine wpList_load_mid rfl 38 (.tmp 49) rfl g (o + i * 10) rfl x.vals _ HS.out Try.underlying38 rfl el_info ?_
            go_wp2_with (with_reducible (show wpList _ _ _ (Oper.mk (some 13) (.alloc 38) _ _ _ _ :: _) _ _); refine still ?_)
            refine list_exec rfl _ _ (HX0.out _ _ rfl) ?_
            go_wp2_with (with_reducible (show wpList _ _ _ (Oper.mk none (.store 38 (.tmp 13) (.tmp 50)) _ _ _ _ :: _) _ _); refine still ?_)
            refine list_put wz E 38 el0.vals x.vals HHB.out rfl x.vals_one el_info rfl (.tmp 13) (.tmp 50) rfl rfl rfl (fun wa h2 t2 => ?_)
            have HE := Lib.hid h2
            have Twa := Lib.hid (show Turn (fun _ => False) wr wa from HBB.out.trans t2 (fun q hq e => by have := HEE.out; omega))
            have LE := Lib.hid (show wr.heap.size = E from HEE.out)
            clear h2 t2 HX0 HBB HHB HEE
            have c0 := (range_of HE.out 0 _ rfl : wa.cell? ⟨E, 0, none⟩ = some (.int .i64 x.id))
            have ii := HOK.out.id
            have ip := HOK.out.par
            unfold I64 at ii ip
            go_wp2_with (with_reducible (show wpList _ _ _ (Oper.mk none (.store 3 (.tmp 57) (.tmp 56)) _ _ _ _ :: _) _ _); refine still ?_)
            have b0 := small12 x.id
            obtain ⟨d0, hd0⟩ : ∃ d, wrap64 (1 + wrap64 ((IntKind.u64.wrap x.id).tmod 12)) = d := ⟨_, rfl⟩
            rw [hd0] at b0
            refine list_set1 wa E 38 3 _ 0 (.int .i64 d0) HE.out (show 0 < 10 by decide) rfl rfl (by kernel_rfl) rfl (.tmp 57) (.tmp 56) rfl rfl (congrArg (Value.int .i64) hd0) (fun wb h2 t2 => ?_)
            have HE2 := Lib.hid (show wb.heap[E]? = some (.cells (El.vals { x with id := d0 }).toArray 38 (0, 0)) from h2)
            have TB := Lib.hid (show Turn (fun _ => False) wr wb from Twa.out.trans t2 (fun q hq e => by have := LE.out; omega))
            clear h2 t2 hd0 c0
            have c2 := (range_of HE2.out 2 _ rfl : wb.cell? ⟨E, 2, none⟩ = some (.int .i64 x.par))
            go_wp2_with (with_reducible (show wpList _ _ _ (Oper.mk none (.store 3 (.tmp 63) (.tmp 62)) _ _ _ _ :: _) _ _); refine still ?_)
            have b1 := small13 x.par
            obtain ⟨d1, hd1⟩ : ∃ d, wrap64 ((IntKind.u64.wrap x.par).tmod 13) = d := ⟨_, rfl⟩
            rw [hd1] at b1
            refine list_set1 wb E 38 3 _ 2 (.int .i64 d1) HE2.out (show 2 < 10 by decide) rfl rfl (by kernel_rfl) rfl (.tmp 63) (.tmp 62) rfl rfl (congrArg (Value.int .i64) hd1) (fun wc h2 t2 => ?_)
            obtain ⟨e, he⟩ : ∃ e : El, e = { x with id := d0, par := d1 } := ⟨_, rfl⟩
            have HE3 := Lib.hid (show wc.heap[E]? = some (.cells e.vals.toArray 38 (0, 0)) by rw [he]; exact h2)
            have TC := Lib.hid (show Turn (fun _ => False) wr wc from TB.out.trans t2 (fun q hq e => by have := LE.out; omega))
            have HEK := Lib.hid (show (0 ≤ e.kind ∧ e.kind ≤ 255) ∧ I64 e.id ∧ I64 e.par by rw [he]; exact ⟨HOK.out.kind, (by show I64 d0; unfold I64; omega), (by show I64 d1; unfold I64; omega)⟩)
            clear h2 t2 hd1 c2 he b0 b1 ii ip
            go_wp2_with (with_reducible (show wpList _ _ _ (Oper.mk (some 65) (.load 38 (.tmp 13)) _ _ _ _ :: _) _ _); refine still ?_)
            refine wpList_load_mid rfl 38 (.tmp 13) rfl E 0 rfl e.vals _ (range_of HE3.out) Try.underlying38 rfl el_info ?_
            have hq20 : q ≤ 20 := by omega
            go_wp2_with fail
            refine (rput_any wc _ Z e (HZ.out.turn TC.out (fun _ _ => id)) HZR.out (by omega)).mono ?_
            rintro r wd ⟨v, rfl, ho, td⟩
            have HV := Lib.hid (own_rowV ho)
            have TD := Lib.hid ((HT.out.trans TC.out (fun _ _ => id)).trans td (fun _ _ => id))
            have hpl := putE_lenE Z e
            clear ho td
            go_wp2_with fail
            go_roundw
            case rel => exact ⟨i + 1, putE Z e, by omega, by go_num, HV.out, HZR.out.put e, by omega, (fun y hy => by
              rcases mem_putE.1 hy with rfl | ⟨h, _⟩
              · exact HEK.out.1
              · exact HZK.out y h), (fun y hy => by
              rcases mem_putE.1 hy with rfl | ⟨h, _⟩
              · exact HEK.out.2
              · exact HZI.out y h), TD.out⟩
            case measure => simp [intOf]; omega
          · have hie : i = q := by omega
            subst hie
            have dk : decide ((i : Int) < (i : Int)) = false := decide_eq_false (by omega)
            have KX := Lib.hid (show Fit wr vx X from ⟨HX4.out.turn HT.out (fun _ _ => id), GX.out.kok, GX.out.iok, by have := GX.out.len; omega⟩)
            have KY := Lib.hid (show Fit wr vy Y from ⟨HY4.out.turn HT.out (fun _ _ => id), GY.out.kok, GY.out.iok, by have := GY.out.len; omega⟩)
            have KZ := Lib.hid (show Fit wr _ Z from ⟨HZ.out, HZK.out, HZI.out, by omega⟩)
            have KL := Lib.hid (show Fit wr _ a2 from ⟨(H2.out.turn (T4.out.trans HT.out (fun _ _ => id)) (fun _ _ => id)), (fun y hy => (HO.out y hy).kind), (fun y hy => ⟨(HO.out y hy).id, (HO.out y hy).par⟩), by have := HQ.out; omega⟩)
            have TW := Lib.hid (T4.out.trans HT.out (fun _ _ => id))
            clear HX4 HY4 HZ HZK HZI HZR H2 HT HO
            obtain ⟨h5, hh5⟩ : ∃ h, how.tmod 5 = h := ⟨_, rfl⟩
            by_cases k1 : h5 = 1
            · have e1 : (h5 == 1) = true := by simpa using k1
              go_wp2_with fail
              refine (dif_any wr _ _ X Z KX.out.row KZ.out.row KX.out.kok KZ.out.kok KX.out.iok KZ.out.iok (by have := KX.out.len; omega) (by have := KZ.out.len; omega)).mono ?_
              rintro r wd ⟨vd, rfl, hvd, td⟩
              have HRA := Lib.hid (KX.out.row.turn td (fun _ _ => id))
              have HRB := Lib.hid (KZ.out.row.turn td (fun _ _ => id))
              have HLD := Lib.hid (diffE_len60 X Z KX.out.len KZ.out.len)
              have HDD := Lib.hid (rfl : diffE X Z = diffE X Z)
              obtain ⟨p, hp⟩ : ∃ p, diffE X Z = p := ⟨_, rfl⟩
              have HP := Lib.hid hp
              rw [hp] at hvd HLD ⊢
              obtain ⟨D, cd⟩ := p
              have HV1 := Lib.hid hvd
              have TD := Lib.hid (TW.out.trans td (fun _ _ => id))
              clear hvd td hp HDD
              go_wp2_with fail
              refine (rdiff_any wd _ _ X Z HRA.out HRB.out KX.out.kok KZ.out.kok KX.out.len KZ.out.len).mono ?_
              rintro r we ⟨ve, rfl, hve, te⟩
              rw [HP.out] at hve ⊢
              have HV2 := Lib.hid (HV1.out.turn te (fun _ _ => id))
              have HV3 := Lib.hid hve
              have TE := Lib.hid (TD.out.trans te (fun _ _ => id))
              clear hve te
              go_wp2_with fail
              refine (esame_any we _ _ D D HV2.out HV3.out ⟨HLD.out, HLD.out⟩).mono ?_
              rintro r wf ⟨rfl, tf⟩
              have TF := Lib.hid (TE.out.trans tf (fun _ _ => id))
              clear tf
              rw [decide_eq_true (rfl : D = D)]
              go_wp2_with fail
              go_ret
              exact ⟨rfl, TF.out⟩
            · have e1 : (h5 == 1) = false := by simpa using k1
              by_cases k2 : h5 = 2
              · have e2 : (h5 == 2) = true := by simpa using k2
                go_wp2_with fail
                refine (dif_any wr _ _ Z Y KZ.out.row KY.out.row KZ.out.kok KY.out.kok KZ.out.iok KY.out.iok (by have := KZ.out.len; omega) (by have := KY.out.len; omega)).mono ?_
                rintro r wd ⟨vd, rfl, hvd, td⟩
                have HRA := Lib.hid (KZ.out.row.turn td (fun _ _ => id))
                have HRB := Lib.hid (KY.out.row.turn td (fun _ _ => id))
                have HLD := Lib.hid (diffE_len60 Z Y KZ.out.len KY.out.len)
                have HDD := Lib.hid (rfl : diffE Z Y = diffE Z Y)
                obtain ⟨p, hp⟩ : ∃ p, diffE Z Y = p := ⟨_, rfl⟩
                have HP := Lib.hid hp
                rw [hp] at hvd HLD ⊢
                obtain ⟨D, cd⟩ := p
                have HV1 := Lib.hid hvd
                have TD := Lib.hid (TW.out.trans td (fun _ _ => id))
                clear hvd td hp HDD
                go_wp2_with fail
                refine (rdiff_any wd _ _ Z Y HRA.out HRB.out KZ.out.kok KY.out.kok KZ.out.len KY.out.len).mono ?_
                rintro r we ⟨ve, rfl, hve, te⟩
                rw [HP.out] at hve ⊢
                have HV2 := Lib.hid (HV1.out.turn te (fun _ _ => id))
                have HV3 := Lib.hid hve
                have TE := Lib.hid (TD.out.trans te (fun _ _ => id))
                clear hve te
                go_wp2_with fail
                refine (esame_any we _ _ D D HV2.out HV3.out ⟨HLD.out, HLD.out⟩).mono ?_
                rintro r wf ⟨rfl, tf⟩
                have TF := Lib.hid (TE.out.trans tf (fun _ _ => id))
                clear tf
                rw [decide_eq_true (rfl : D = D)]
                go_wp2_with fail
                go_ret
                exact ⟨rfl, TF.out⟩
              · have e2 : (h5 == 2) = false := by simpa using k2
                by_cases k3 : h5 = 3
                · have e3 : (h5 == 3) = true := by simpa using k3
                  go_wp2_with fail
                  refine (dif_any wr _ _ X a2 KX.out.row KL.out.row KX.out.kok KL.out.kok KX.out.iok KL.out.iok (by have := KX.out.len; omega) (by have := KL.out.len; omega)).mono ?_
                  rintro r wd ⟨vd, rfl, hvd, td⟩
                  have HRA := Lib.hid (KX.out.row.turn td (fun _ _ => id))
                  have HRB := Lib.hid (KL.out.row.turn td (fun _ _ => id))
                  have HLD := Lib.hid (diffE_len60 X a2 KX.out.len KL.out.len)
                  have HDD := Lib.hid (rfl : diffE X a2 = diffE X a2)
                  obtain ⟨p, hp⟩ : ∃ p, diffE X a2 = p := ⟨_, rfl⟩
                  have HP := Lib.hid hp
                  rw [hp] at hvd HLD ⊢
                  obtain ⟨D, cd⟩ := p
                  have HV1 := Lib.hid hvd
                  have TD := Lib.hid (TW.out.trans td (fun _ _ => id))
                  clear hvd td hp HDD
                  go_wp2_with fail
                  refine (rdiff_any wd _ _ X a2 HRA.out HRB.out KX.out.kok KL.out.kok KX.out.len KL.out.len).mono ?_
                  rintro r we ⟨ve, rfl, hve, te⟩
                  rw [HP.out] at hve ⊢
                  have HV2 := Lib.hid (HV1.out.turn te (fun _ _ => id))
                  have HV3 := Lib.hid hve
                  have TE := Lib.hid (TD.out.trans te (fun _ _ => id))
                  clear hve te
                  go_wp2_with fail
                  refine (esame_any we _ _ D D HV2.out HV3.out ⟨HLD.out, HLD.out⟩).mono ?_
                  rintro r wf ⟨rfl, tf⟩
                  have TF := Lib.hid (TE.out.trans tf (fun _ _ => id))
                  clear tf
                  rw [decide_eq_true (rfl : D = D)]
                  go_wp2_with fail
                  go_ret
                  exact ⟨rfl, TF.out⟩
                · have e3 : (h5 == 3) = false := by simpa using k3
                  go_wp2_with fail
                  refine (dif_any wr _ _ X Y KX.out.row KY.out.row KX.out.kok KY.out.kok KX.out.iok KY.out.iok (by have := KX.out.len; omega) (by have := KY.out.len; omega)).mono ?_
                  rintro r wd ⟨vd, rfl, hvd, td⟩
                  have HRA := Lib.hid (KX.out.row.turn td (fun _ _ => id))
                  have HRB := Lib.hid (KY.out.row.turn td (fun _ _ => id))
                  have HLD := Lib.hid (diffE_len60 X Y KX.out.len KY.out.len)
                  have HDD := Lib.hid (rfl : diffE X Y = diffE X Y)
                  obtain ⟨p, hp⟩ : ∃ p, diffE X Y = p := ⟨_, rfl⟩
                  have HP := Lib.hid hp
                  rw [hp] at hvd HLD ⊢
                  obtain ⟨D, cd⟩ := p
                  have HV1 := Lib.hid hvd
                  have TD := Lib.hid (TW.out.trans td (fun _ _ => id))
                  clear hvd td hp HDD
                  go_wp2_with fail
                  refine (rdiff_any wd _ _ X Y HRA.out HRB.out KX.out.kok KY.out.kok KX.out.len KY.out.len).mono ?_
                  rintro r we ⟨ve, rfl, hve, te⟩
                  rw [HP.out] at hve ⊢
                  have HV2 := Lib.hid (HV1.out.turn te (fun _ _ => id))
                  have HV3 := Lib.hid hve
                  have TE := Lib.hid (TD.out.trans te (fun _ _ => id))
                  clear hve te
                  go_wp2_with fail
                  refine (esame_any we _ _ D D HV2.out HV3.out ⟨HLD.out, HLD.out⟩).mono ?_
                  rintro r wf ⟨rfl, tf⟩
                  have TF := Lib.hid (TE.out.trans tf (fun _ _ => id))
                  clear tf
                  rw [decide_eq_true (rfl : D = D)]
                  go_wp2_with fail
                  go_ret
                  exact ⟨rfl, TF.out⟩

end Go.Proofs.Ytkciaafkhpjnaaa
