/- Own texts, packed: Cg. No statement is proved here. -/
import Derived.Test.YtkciaafkhpjnaaaQ17
import Derived.Test.YtkciaafkhpjnaaaQ28
import Derived.Test.YtkciaafkhpjnaaaQ07
import Derived.Test.YtkciaafkhpjnaaaQ21
namespace Go.Proofs.Ytkciaafkhpjnaaa
set_option maxRecDepth 100000
open Go.RowKit
set_option linter.unusedVariables false
set_option linter.unusedSimpArgs false

theorem run_build_act (x : A4) (w : World) : (Instr.buildSlice 22 1 #[(0, .agg x.vals.toArray)]).run Try.prog w = .ok (.slice (some ⟨w.heap.size, 0, none⟩) 1 1) (w.alloc (.cells x.vals.toArray 57)) := by kernel_rfl
theorem exec_build_act (ev : Operand → Value) (op : Oper) (y : Operand) (ho : op.op = .buildSlice 22 1 #[(0, y)]) (x : A4) (hy : ev y = .agg x.vals.toArray) (w : World) : (execOp ev op).run Try.prog w = .ok (.value (.slice (some ⟨w.heap.size, 0, none⟩) 1 1)) (w.alloc (.cells x.vals.toArray 57)) := by
  unfold execOp
  simp only [ho, hy, Sem.run_bind, Sem.run_pure, Result.andThen_ok, List.map_toArray, List.map_cons, List.map_nil, run_build_act]
theorem one_acts (x : A4) (hx : x.Ok) (w : World) : ActsV (w.alloc (.cells x.vals.toArray 57)) (.slice (some ⟨w.heap.size, 0, none⟩) 1 1) [x] := by
  have hb := box_alloc w 57 x.vals
  refine .inr ⟨w.heap.size, 0, 1, rfl, Nat.le_refl _, fun _ => by simp, fun k hk => ?_⟩
  have hk0 : k = 0 := by simp at hk; omega
  subst hk0
  exact ⟨range_of hb.heap, hx⟩
theorem kinds_put {l : List El} {e : El} (h : ∀ x ∈ l, 0 ≤ x.kind ∧ x.kind ≤ 255) (he : 0 ≤ e.kind ∧ e.kind ≤ 255) : ∀ x ∈ putE l e, 0 ≤ x.kind ∧ x.kind ≤ 255 := fun x hx => by
  rcases mem_putE.1 hx with rfl | ⟨h1, _⟩
  · exact he
  · exact h x h1
theorem kinds_drop {l : List El} {nr : Int} (h : ∀ x ∈ l, 0 ≤ x.kind ∧ x.kind ≤ 255) : ∀ x ∈ dropE l nr, 0 ≤ x.kind ∧ x.kind ≤ 255 := fun x hx => h x (List.mem_filter.1 hx).1
theorem rfindZ (w : World) (v : Value) (l : List El) (nr : Int) (hv : RowV w v l) (hb : l.length ≤ 1000) : Calls Try.prog 20 #[v, .int .i64 nr] w fun e w' => ∃ z : Int, e = .returned (.int .i64 z) ∧ w = w' := by
  refine (rfind_any w v l nr hv hb).mono ?_
  rintro e w' ⟨⟨q, _, _, _, rfl⟩ | ⟨_, rfl⟩, h⟩
  · exact ⟨_, rfl, h⟩
  · exact ⟨_, rfl, h⟩
def ChgP (w : World) (r : Ending) (w' : World) : Prop := ∃ q c', r = .returned q ∧ RowV w' q c' ∧ GoodE c' ∧ Turn (fun _ => False) w w'
set_option maxHeartbeats 16000000 in
theorem change_any (w : World) (v u : Value) (c : List El) (l : List A4) (hv : RowV w v c) (hg : GoodE c) (hu : ActsV w u l) (hb : l.length ≤ 1000000000000) : Calls Try.prog 10 #[v, u] w (ChgP w) := by
  obtain ⟨la, lc, rfl⟩ := hu.form
  obtain ⟨n, hn⟩ : ∃ n, l.length = n := ⟨_, rfl⟩
  rw [hn] at hu hb
  simp only [hn]
  have HV := Lib.hid hv
  have HG0 := Lib.hid hg
  have HU := Lib.hid hu
  have HN := Lib.hid hn
  clear hv hu hn hg
  go_enter Try.func10, Try.ntmps10
  go_wp2_with fail
  go_loopw [0, 5] (fun cv iv wr => ∃ (k : Nat) (C : List El), k ≤ n ∧ k ≤ 12 ∧ iv = .int .i64 (k : Int) ∧ RowV wr cv C ∧ GoodE C ∧ Turn (fun _ => False) w wr) (fun _ iv _ => n - (intOf iv).toNat)
  case atStart => exact ⟨0, c, Nat.zero_le _, Nat.zero_le _, rfl, HV.out, HG0.out, Turn.refl _ _⟩
  case round =>
    obtain ⟨k, C, hk, hk12, rfl, hrow, hgc, htr⟩ := hrel
    obtain ⟨ca, cc, hform⟩ := hrow.form
    subst hform
    obtain ⟨M, hM⟩ : ∃ M, C.length = M := ⟨_, rfl⟩
    have hml := hgc.len
    rw [hM] at hrow hml ⊢
    have HROW := Lib.hid hrow
    have HTR := Lib.hid htr
    have HG := Lib.hid hgc
    have HM := Lib.hid hM
    clear hrow htr hM hgc
    by_cases hlt : k < n ∧ k < 12
    · obtain ⟨hlt, h24⟩ := hlt
      have dk : decide ((k : Int) < (n : Int)) = true := decide_eq_true (by omega)
      have dk2 : decide ((k : Int) < 12) = true := decide_eq_true (by omega)
      have gi : (0 : Int) ≤ (k : Int) ∧ (k : Int) < (n : Int) := by omega
      obtain ⟨g, o, rfl, hc, hs1, hok⟩ := (HU.out.turn HTR.out).one HN.out k hlt
      obtain ⟨x, hx⟩ : ∃ x, l.getD k a40 = x := ⟨_, rfl⟩
      rw [hx] at hs1 hok
      have HS1 := Lib.hid hs1
      have HOK := Lib.hid hok
      have r1 := hok.k
      have r2 := hok.a
      have r3 := hok.b
      have r4 := hok.c
      clear hx hs1 hok hc
      have hbb := box_alloc wr 57 a40.vals
      obtain ⟨A, hE⟩ : ∃ A, wr.heap.size = A := ⟨_, rfl⟩
      obtain ⟨wz, hwz⟩ : ∃ wz, wr.alloc (.cells a40.vals.toArray 57) = wz := ⟨_, rfl⟩
      have hx0 : ∀ ev op, op.op = .alloc 57 → (execOp ev op).run Try.prog wr = .ok (.value (.pointer (some ⟨A, 0, none⟩))) wz := fun ev op ho => by rw [← hwz, ← hE]; exact exec_zero70 ev op ho _
      rw [hwz] at hbb
      have hhh := hbb.heap
      rw [hE] at hhh
      have HX0 := Lib.hid hx0
      have HBB := Lib.hid hbb.turn
      have HHB := Lib.hid hhh
      have HEE := Lib.hid hE
      clear hbb hE hwz hx0 hhh
      go_wp2_with (with_reducible (show wpList _ _ _ (Oper.mk (some 25) (.load 57 (.tmp 24)) _ _ _ _ :: _) _ _); refine still ?_)
      refine wpList_load_mid rfl 57 (.tmp 24) rfl g (o + k * 4) rfl x.vals _ HS1.out Try.underlying57 rfl a4_info ?_
      go_wp2_with (with_reducible (show wpList _ _ _ (Oper.mk (some 6) (.alloc 57) _ _ _ _ :: _) _ _); refine still ?_)
      refine list_exec rfl _ _ (HX0.out _ _ rfl) ?_
      go_wp2_with (with_reducible (show wpList _ _ _ (Oper.mk none (.store 57 (.tmp 6) (.tmp 25)) _ _ _ _ :: _) _ _); refine still ?_)
      refine list_put wz A 57 a40.vals x.vals HHB.out rfl x.vals_one a4_info rfl (.tmp 6) (.tmp 25) rfl rfl rfl (fun wa h2 t2 => ?_)
      have HA := Lib.hid h2
      have Twa := Lib.hid (show Turn (fun _ => False) wr wa from HBB.out.trans t2 (fun q hq e => by have := HEE.out; omega))
      have LA := Lib.hid (show wr.heap.size = A from HEE.out)
      clear h2 t2 HX0 HBB HHB HEE
      have HR1 := Lib.hid (HROW.out.turn Twa.out (fun _ _ => id))
      have T1 := Lib.hid (HTR.out.trans Twa.out (fun _ _ => id))
      have HLA := Lib.hid (show A < wa.heap.size from (Array.getElem?_eq_some_iff.1 HA.out).1)
      have mk4 : x.k.tmod 4 = x.k % 4 := Int.tmod_eq_emod_of_nonneg r1.1
      have d0 : wa.cell? ⟨A, 0, none⟩ = some (.int .u8 x.k) := range_of HA.out 0 _ rfl
      by_cases h4 : x.k % 4 = 0
      · have q4 : (x.k % 4 == 0) = true := by simpa using h4
        clear h4
        go_wp2_with (with_reducible (show wpList _ _ _ (Oper.mk (some 36) (.load 57 (.tmp 6)) _ _ _ _ :: _) _ _); refine still ?_)
        refine wpList_load_mid rfl 57 (.tmp 6) rfl A 0 rfl x.vals _ (range_of HA.out) Try.underlying57 rfl a4_info ?_
        clear d0
        have HAC := Lib.hid (one_acts x HOK.out wa)
        obtain ⟨AB, hAB⟩ : ∃ AB, wa.heap.size = AB := ⟨_, rfl⟩
        obtain ⟨wb, hwb⟩ : ∃ wb, wa.alloc (.cells x.vals.toArray 57) = wb := ⟨_, rfl⟩
        have hxb : ∀ ev op y, op.op = .buildSlice 22 1 #[(0, y)] → ev y = .agg x.vals.toArray → (execOp ev op).run Try.prog wa = .ok (.value (.slice (some ⟨AB, 0, none⟩) 1 1)) wb := fun ev op y ho hy => by rw [← hwb, ← hAB]; exact exec_build_act ev op y ho x hy wa
        have t1 : Turn (fun _ => False) wa wb := by rw [← hwb]; exact (Turn.refl _ wa).alloc _
        rw [hAB, hwb] at HAC
        have HXB := Lib.hid hxb
        have TB := Lib.hid t1
        clear hAB hwb hxb t1
        go_wp2_with (with_reducible (show wpList _ _ _ (Oper.mk (some 37) (.buildSlice 22 _ _) _ _ _ _ :: _) _ _); refine still ?_)
        refine list_exec rfl _ _ (HXB.out _ _ (.tmp 36) rfl rfl) ?_
        go_wp2_with fail
        refine (make_any wb _ [x] HAC.out (by simp)).mono ?_
        rintro r wc ⟨mv, rfl, hmr, tc⟩
        have TC := Lib.hid (TB.out.trans tc (fun _ _ => id))
        have HR2 := Lib.hid (HR1.out.turn TC.out (fun _ _ => id))
        have T2 := Lib.hid (T1.out.trans TC.out (fun _ _ => id))
        obtain ⟨D0, hD0⟩ : ∃ D0, makeE [x] = D0 := ⟨_, rfl⟩
        have hg0 : GoodE D0 := by rw [← hD0]; exact good_makeE _
        rw [hD0] at hmr
        obtain ⟨ma, mc, hmf⟩ := hmr.form
        subst hmf
        obtain ⟨Q, hQ⟩ : ∃ Q, D0.length = Q := ⟨_, rfl⟩
        rw [hQ] at hmr ⊢
        have HMR := Lib.hid hmr
        have HG1 := Lib.hid hg0
        have HQ := Lib.hid hQ
        have hq40 : Q ≤ 40 := by have := hg0.len; omega
        clear hmr hg0 hQ hD0 tc
        by_cases hq0 : Q = 0
        · have dq : decide ((0 : Int) < (Q : Int)) = false := decide_eq_false (by omega)
          have HKC := Lib.hid HG.out.kind
          have HLC := Lib.hid (show C.length ≤ 1000 by have := HG.out.len; omega)
          go_wp2_with fail
          refine (check_any wc _ C HR2.out HLC.out).mono ?_
          rintro r w6 ⟨rfl, t6⟩
          have HR6 := Lib.hid (HR2.out.turn t6 (fun _ _ => id))
          have HROW6 := Lib.hid (HR2.out.turn t6 (fun _ _ => id))
          have T6 := Lib.hid (T2.out.trans t6 (fun _ _ => id))
          obtain ⟨R1, hR1⟩ : ∃ R1, (checkE C).1 = R1 := ⟨_, rfl⟩
          obtain ⟨R2, hR2⟩ : ∃ R2, (checkE C).2 = R2 := ⟨_, rfl⟩
          rw [hR1, hR2]
          have HR1E := Lib.hid hR1
          clear t6 hR1 hR2
          by_cases h0 : R1 = 0
          · have d0 : (R1 == 0) = true := by simpa using h0
            have HF := Lib.hid (show GoodE C from ⟨by rw [HR1E.out]; exact h0, HKC.out⟩)
            clear h0
            go_wp2_with fail
            go_roundw
            case rel => exact ⟨k + 1, _, by omega, by omega, by go_num, HR6.out, HF.out, T6.out⟩
            case measure => simp [intOf]; omega
          · have d0 : (R1 == 0) = false := by simpa using h0
            clear h0
            go_wp2_with fail
            go_roundw
            case rel => exact ⟨k + 1, _, by omega, by omega, by go_num, HROW6.out, HG.out, T6.out⟩
            case measure => simp [intOf]; omega
        · have dq : decide ((0 : Int) < (Q : Int)) = true := decide_eq_true (by omega)
          have gq : (0 : Int) ≤ 0 ∧ (0 : Int) < (Q : Int) := by omega
          obtain ⟨gm, om, rfl, hcm, hsm⟩ := HMR.out.one HQ.out 0 (by omega)
          have hym := getD_mem (l := D0) (k := 0) (by rw [HQ.out]; omega)
          have hky := HG1.out.kind _ hym
          obtain ⟨y, hy⟩ : ∃ y, D0.getD 0 el0 = y := ⟨_, rfl⟩
          rw [hy] at hsm hky
          rw [Nat.zero_mul, Nat.add_zero] at hsm
          have c0 := range0 hsm
          have HSM := Lib.hid hsm
          have HKY := Lib.hid hky
          clear hy hsm hky hym hcm
          go_wp2_with (go_at_call 20; refine (rfindZ wc _ C y.id HR2.out (by have := HG.out.len; omega)).mono ?_; rintro r wd ⟨z, rfl, rfl⟩; refine still ?_)
          unfold Still
          by_cases hz : z < 0
          · have dz : decide (z < 0) = true := decide_eq_true hz
            clear c0 hz
            go_wp2_with (with_reducible (show wpList _ _ _ (Oper.mk (some 54) (.load 38 (.tmp 53)) _ _ _ _ :: _) _ _); refine still ?_)
            refine wpList_load_mid rfl 38 (.tmp 53) rfl gm om rfl y.vals _ HSM.out Try.underlying38 rfl el_info ?_
            go_wp2_with fail
            refine (rput_good wc _ C y HR2.out HG.out).mono ?_
            rintro r w5 ⟨dv, rfl, hrow5, t5⟩
            have HR5 := Lib.hid hrow5
            have HC5 := Lib.hid (HR2.out.turn t5 (fun _ _ => id))
            have T5 := Lib.hid (T2.out.trans t5 (fun _ _ => id))
            have HK5 := Lib.hid (kinds_put (e := y) HG.out.kind HKY.out)
            have HL5 := Lib.hid (show (putE C y).length ≤ 1000 by have := putE_len C y; have := HG.out.len; omega)
            clear hrow5 t5
            go_wp2_with fail
            refine (check_any w5 _ (putE C y) HR5.out HL5.out).mono ?_
            rintro r w6 ⟨rfl, t6⟩
            have HR6 := Lib.hid (HR5.out.turn t6 (fun _ _ => id))
            have HROW6 := Lib.hid (HC5.out.turn t6 (fun _ _ => id))
            have T6 := Lib.hid (T5.out.trans t6 (fun _ _ => id))
            obtain ⟨R1, hR1⟩ : ∃ R1, (checkE (putE C y)).1 = R1 := ⟨_, rfl⟩
            obtain ⟨R2, hR2⟩ : ∃ R2, (checkE (putE C y)).2 = R2 := ⟨_, rfl⟩
            rw [hR1, hR2]
            have HR1E := Lib.hid hR1
            clear t6 hR1 hR2
            by_cases h0 : R1 = 0
            · have d0 : (R1 == 0) = true := by simpa using h0
              have HF := Lib.hid (show GoodE (putE C y) from ⟨by rw [HR1E.out]; exact h0, HK5.out⟩)
              clear h0
              go_wp2_with fail
              go_roundw
              case rel => exact ⟨k + 1, _, by omega, by omega, by go_num, HR6.out, HF.out, T6.out⟩
              case measure => simp [intOf]; omega
            · have d0 : (R1 == 0) = false := by simpa using h0
              clear h0
              go_wp2_with fail
              go_roundw
              case rel => exact ⟨k + 1, _, by omega, by omega, by go_num, HROW6.out, HG.out, T6.out⟩
              case measure => simp [intOf]; omega
          · have dz : decide (z < 0) = false := decide_eq_false hz
            clear c0 hz
            have HKC := Lib.hid HG.out.kind
            have HLC := Lib.hid (show C.length ≤ 1000 by have := HG.out.len; omega)
            go_wp2_with fail
            refine (check_any wc _ C HR2.out HLC.out).mono ?_
            rintro r w6 ⟨rfl, t6⟩
            have HR6 := Lib.hid (HR2.out.turn t6 (fun _ _ => id))
            have HROW6 := Lib.hid (HR2.out.turn t6 (fun _ _ => id))
            have T6 := Lib.hid (T2.out.trans t6 (fun _ _ => id))
            obtain ⟨R1, hR1⟩ : ∃ R1, (checkE C).1 = R1 := ⟨_, rfl⟩
            obtain ⟨R2, hR2⟩ : ∃ R2, (checkE C).2 = R2 := ⟨_, rfl⟩
            rw [hR1, hR2]
            have HR1E := Lib.hid hR1
            clear t6 hR1 hR2
            by_cases h0 : R1 = 0
            · have d0 : (R1 == 0) = true := by simpa using h0
              have HF := Lib.hid (show GoodE C from ⟨by rw [HR1E.out]; exact h0, HKC.out⟩)
              clear h0
              go_wp2_with fail
              go_roundw
              case rel => exact ⟨k + 1, _, by omega, by omega, by go_num, HR6.out, HF.out, T6.out⟩
              case measure => simp [intOf]; omega
            · have d0 : (R1 == 0) = false := by simpa using h0
              clear h0
              go_wp2_with fail
              go_roundw
              case rel => exact ⟨k + 1, _, by omega, by omega, by go_num, HROW6.out, HG.out, T6.out⟩
              case measure => simp [intOf]; omega
      · have q4 : (x.k % 4 == 0) = false := by simpa using h4
        clear h4
        by_cases hM0 : M = 0
        · have qM : ((M : Int) == 0) = true := by subst hM0; rfl
          clear hM0
          go_wp2_with (with_reducible (show wpList _ _ _ (Oper.mk (some 36) (.load 57 (.tmp 6)) _ _ _ _ :: _) _ _); refine still ?_)
          refine wpList_load_mid rfl 57 (.tmp 6) rfl A 0 rfl x.vals _ (range_of HA.out) Try.underlying57 rfl a4_info ?_
          clear d0
          have HAC := Lib.hid (one_acts x HOK.out wa)
          obtain ⟨AB, hAB⟩ : ∃ AB, wa.heap.size = AB := ⟨_, rfl⟩
          obtain ⟨wb, hwb⟩ : ∃ wb, wa.alloc (.cells x.vals.toArray 57) = wb := ⟨_, rfl⟩
          have hxb : ∀ ev op y, op.op = .buildSlice 22 1 #[(0, y)] → ev y = .agg x.vals.toArray → (execOp ev op).run Try.prog wa = .ok (.value (.slice (some ⟨AB, 0, none⟩) 1 1)) wb := fun ev op y ho hy => by rw [← hwb, ← hAB]; exact exec_build_act ev op y ho x hy wa
          have t1 : Turn (fun _ => False) wa wb := by rw [← hwb]; exact (Turn.refl _ wa).alloc _
          rw [hAB, hwb] at HAC
          have HXB := Lib.hid hxb
          have TB := Lib.hid t1
          clear hAB hwb hxb t1
          go_wp2_with (with_reducible (show wpList _ _ _ (Oper.mk (some 37) (.buildSlice 22 _ _) _ _ _ _ :: _) _ _); refine still ?_)
          refine list_exec rfl _ _ (HXB.out _ _ (.tmp 36) rfl rfl) ?_
          go_wp2_with fail
          refine (make_any wb _ [x] HAC.out (by simp)).mono ?_
          rintro r wc ⟨mv, rfl, hmr, tc⟩
          have TC := Lib.hid (TB.out.trans tc (fun _ _ => id))
          have HR2 := Lib.hid (HR1.out.turn TC.out (fun _ _ => id))
          have T2 := Lib.hid (T1.out.trans TC.out (fun _ _ => id))
          obtain ⟨D0, hD0⟩ : ∃ D0, makeE [x] = D0 := ⟨_, rfl⟩
          have hg0 : GoodE D0 := by rw [← hD0]; exact good_makeE _
          rw [hD0] at hmr
          obtain ⟨ma, mc, hmf⟩ := hmr.form
          subst hmf
          obtain ⟨Q, hQ⟩ : ∃ Q, D0.length = Q := ⟨_, rfl⟩
          rw [hQ] at hmr ⊢
          have HMR := Lib.hid hmr
          have HG1 := Lib.hid hg0
          have HQ := Lib.hid hQ
          have hq40 : Q ≤ 40 := by have := hg0.len; omega
          clear hmr hg0 hQ hD0 tc
          by_cases hq0 : Q = 0
          · have dq : decide ((0 : Int) < (Q : Int)) = false := decide_eq_false (by omega)
            have HKC := Lib.hid HG.out.kind
            have HLC := Lib.hid (show C.length ≤ 1000 by have := HG.out.len; omega)
            go_wp2_with fail
            refine (check_any wc _ C HR2.out HLC.out).mono ?_
            rintro r w6 ⟨rfl, t6⟩
            have HR6 := Lib.hid (HR2.out.turn t6 (fun _ _ => id))
            have HROW6 := Lib.hid (HR2.out.turn t6 (fun _ _ => id))
            have T6 := Lib.hid (T2.out.trans t6 (fun _ _ => id))
            obtain ⟨R1, hR1⟩ : ∃ R1, (checkE C).1 = R1 := ⟨_, rfl⟩
            obtain ⟨R2, hR2⟩ : ∃ R2, (checkE C).2 = R2 := ⟨_, rfl⟩
            rw [hR1, hR2]
            have HR1E := Lib.hid hR1
            clear t6 hR1 hR2
            by_cases h0 : R1 = 0
            · have d0 : (R1 == 0) = true := by simpa using h0
              have HF := Lib.hid (show GoodE C from ⟨by rw [HR1E.out]; exact h0, HKC.out⟩)
              clear h0
              go_wp2_with fail
              go_roundw
              case rel => exact ⟨k + 1, _, by omega, by omega, by go_num, HR6.out, HF.out, T6.out⟩
              case measure => simp [intOf]; omega
            · have d0 : (R1 == 0) = false := by simpa using h0
              clear h0
              go_wp2_with fail
              go_roundw
              case rel => exact ⟨k + 1, _, by omega, by omega, by go_num, HROW6.out, HG.out, T6.out⟩
              case measure => simp [intOf]; omega
          · have dq : decide ((0 : Int) < (Q : Int)) = true := decide_eq_true (by omega)
            have gq : (0 : Int) ≤ 0 ∧ (0 : Int) < (Q : Int) := by omega
            obtain ⟨gm, om, rfl, hcm, hsm⟩ := HMR.out.one HQ.out 0 (by omega)
            have hym := getD_mem (l := D0) (k := 0) (by rw [HQ.out]; omega)
            have hky := HG1.out.kind _ hym
            obtain ⟨y, hy⟩ : ∃ y, D0.getD 0 el0 = y := ⟨_, rfl⟩
            rw [hy] at hsm hky
            rw [Nat.zero_mul, Nat.add_zero] at hsm
            have c0 := range0 hsm
            have HSM := Lib.hid hsm
            have HKY := Lib.hid hky
            clear hy hsm hky hym hcm
            go_wp2_with (go_at_call 20; refine (rfindZ wc _ C y.id HR2.out (by have := HG.out.len; omega)).mono ?_; rintro r wd ⟨z, rfl, rfl⟩; refine still ?_)
            unfold Still
            by_cases hz : z < 0
            · have dz : decide (z < 0) = true := decide_eq_true hz
              clear c0 hz
              go_wp2_with (with_reducible (show wpList _ _ _ (Oper.mk (some 54) (.load 38 (.tmp 53)) _ _ _ _ :: _) _ _); refine still ?_)
              refine wpList_load_mid rfl 38 (.tmp 53) rfl gm om rfl y.vals _ HSM.out Try.underlying38 rfl el_info ?_
              go_wp2_with fail
              refine (rput_good wc _ C y HR2.out HG.out).mono ?_
              rintro r w5 ⟨dv, rfl, hrow5, t5⟩
              have HR5 := Lib.hid hrow5
              have HC5 := Lib.hid (HR2.out.turn t5 (fun _ _ => id))
              have T5 := Lib.hid (T2.out.trans t5 (fun _ _ => id))
              have HK5 := Lib.hid (kinds_put (e := y) HG.out.kind HKY.out)
              have HL5 := Lib.hid (show (putE C y).length ≤ 1000 by have := putE_len C y; have := HG.out.len; omega)
              clear hrow5 t5
              go_wp2_with fail
              refine (check_any w5 _ (putE C y) HR5.out HL5.out).mono ?_
              rintro r w6 ⟨rfl, t6⟩
              have HR6 := Lib.hid (HR5.out.turn t6 (fun _ _ => id))
              have HROW6 := Lib.hid (HC5.out.turn t6 (fun _ _ => id))
              have T6 := Lib.hid (T5.out.trans t6 (fun _ _ => id))
              obtain ⟨R1, hR1⟩ : ∃ R1, (checkE (putE C y)).1 = R1 := ⟨_, rfl⟩
              obtain ⟨R2, hR2⟩ : ∃ R2, (checkE (putE C y)).2 = R2 := ⟨_, rfl⟩
              rw [hR1, hR2]
              have HR1E := Lib.hid hR1
              clear t6 hR1 hR2
              by_cases h0 : R1 = 0
              · have d0 : (R1 == 0) = true := by simpa using h0
                have HF := Lib.hid (show GoodE (putE C y) from ⟨by rw [HR1E.out]; exact h0, HK5.out⟩)
                clear h0
                go_wp2_with fail
                go_roundw
                case rel => exact ⟨k + 1, _, by omega, by omega, by go_num, HR6.out, HF.out, T6.out⟩
                case measure => simp [intOf]; omega
              · have d0 : (R1 == 0) = false := by simpa using h0
                clear h0
                go_wp2_with fail
                go_roundw
                case rel => exact ⟨k + 1, _, by omega, by omega, by go_num, HROW6.out, HG.out, T6.out⟩
                case measure => simp [intOf]; omega
            · have dz : decide (z < 0) = false := decide_eq_false hz
              clear c0 hz
              have HKC := Lib.hid HG.out.kind
              have HLC := Lib.hid (show C.length ≤ 1000 by have := HG.out.len; omega)
              go_wp2_with fail
              refine (check_any wc _ C HR2.out HLC.out).mono ?_
              rintro r w6 ⟨rfl, t6⟩
              have HR6 := Lib.hid (HR2.out.turn t6 (fun _ _ => id))
              have HROW6 := Lib.hid (HR2.out.turn t6 (fun _ _ => id))
              have T6 := Lib.hid (T2.out.trans t6 (fun _ _ => id))
              obtain ⟨R1, hR1⟩ : ∃ R1, (checkE C).1 = R1 := ⟨_, rfl⟩
              obtain ⟨R2, hR2⟩ : ∃ R2, (checkE C).2 = R2 := ⟨_, rfl⟩
              rw [hR1, hR2]
              have HR1E := Lib.hid hR1
              clear t6 hR1 hR2
              by_cases h0 : R1 = 0
              · have d0 : (R1 == 0) = true := by simpa using h0
                have HF := Lib.hid (show GoodE C from ⟨by rw [HR1E.out]; exact h0, HKC.out⟩)
                clear h0
                go_wp2_with fail
                go_roundw
                case rel => exact ⟨k + 1, _, by omega, by omega, by go_num, HR6.out, HF.out, T6.out⟩
                case measure => simp [intOf]; omega
              · have d0 : (R1 == 0) = false := by simpa using h0
                clear h0
                go_wp2_with fail
                go_roundw
                case rel => exact ⟨k + 1, _, by omega, by omega, by go_num, HROW6.out, HG.out, T6.out⟩
                case measure => simp [intOf]; omega
        · have qM : ((M : Int) == 0) = false := by simpa using hM0
          have ma : x.a.tmod (M : Int) = x.a % (M : Int) := Int.tmod_eq_emod_of_nonneg r2.1
          have d1 : wa.cell? ⟨A, 1, none⟩ = some (.int .u8 x.a) := range_of HA.out 1 _ rfl
          obtain ⟨j, hj⟩ : ∃ j : Nat, x.a % (M : Int) = (j : Int) := ⟨(x.a % (M : Int)).toNat, by have := Int.emod_nonneg x.a (show (M : Int) ≠ 0 by omega); omega⟩
          have hjM : j < M := by have := Int.emod_lt_of_pos x.a (show (0 : Int) < (M : Int) by omega); omega
          rw [hj] at ma
          clear hj
          have gj : (0 : Int) ≤ (j : Int) ∧ (j : Int) < (M : Int) := by omega
          obtain ⟨g2, o2, rfl, hc2, hs2⟩ := HR1.out.one HM.out j hjM
          have hym := getD_mem (l := C) (k := j) (by rw [HM.out]; exact hjM)
          have hky := HG.out.kind _ hym
          obtain ⟨y, hy⟩ : ∃ y, C.getD j el0 = y := ⟨_, rfl⟩
          rw [hy] at hs2 hky
          have HS2 := Lib.hid hs2
          have HKY := Lib.hid hky
          have HGL := Lib.hid (show g2 < wa.heap.size from World.block_lt_of_cell? wa _ (range0 hs2))
          clear hy hs2 hky hym hc2
          have hbb := box_alloc wa 38 el0.vals
          obtain ⟨E, hE⟩ : ∃ E, wa.heap.size = E := ⟨_, rfl⟩
          obtain ⟨wz, hwz⟩ : ∃ wz, wa.alloc (.cells el0.vals.toArray 38) = wz := ⟨_, rfl⟩
          have hx0 : ∀ ev op, op.op = .alloc 38 → (execOp ev op).run Try.prog wa = .ok (.value (.pointer (some ⟨E, 0, none⟩))) wz := fun ev op ho => by rw [← hwz, ← hE]; exact exec_zero24 ev op ho _
          rw [hwz] at hbb
          have hhh := hbb.heap
          rw [hE] at hhh
          have HX0 := Lib.hid hx0
          have HBB := Lib.hid hbb.turn
          have HHB := Lib.hid hhh
          have HEE := Lib.hid hE
          clear hbb hE hwz hx0 hhh
          go_wp2_with (with_reducible (show wpList _ _ _ (Oper.mk (some 64) (.load 38 (.tmp 63)) _ _ _ _ :: _) _ _); refine still ?_)
          refine wpList_load_mid rfl 38 (.tmp 63) rfl g2 (o2 + j * 10) rfl y.vals _ HS2.out Try.underlying38 rfl el_info ?_
          go_wp2_with (with_reducible (show wpList _ _ _ (Oper.mk (some 9) (.alloc 38) _ _ _ _ :: _) _ _); refine still ?_)
          refine list_exec rfl _ _ (HX0.out _ _ rfl) ?_
          go_wp2_with (with_reducible (show wpList _ _ _ (Oper.mk none (.store 38 (.tmp 9) (.tmp 64)) _ _ _ _ :: _) _ _); refine still ?_)
          refine list_put wz E 38 el0.vals y.vals HHB.out rfl y.vals_one el_info rfl (.tmp 9) (.tmp 64) rfl rfl rfl (fun wb h2 t2 => ?_)
          have HE := Lib.hid h2
          have Twb := Lib.hid (show Turn (fun _ => False) wa wb from HBB.out.trans t2 (fun q hq e => by have := HEE.out; omega))
          have LE := Lib.hid (show wa.heap.size = E from HEE.out)
          clear h2 t2 HX0 HBB HHB HEE
          clear d0 d1
          have MS := Lib.hid (show MkS w wb A E x y from ⟨(Twb.out.block A HLA.out id).trans HA.out, HE.out, T1.out.trans Twb.out (fun _ _ => id), by have := LE.out; have := HLA.out; omega, by have := LE.out; have := T1.out.size; omega⟩)
          have HRX := Lib.hid (HR1.out.turn Twb.out (fun _ _ => id))
          have HNE := Lib.hid (show ∀ q, (Value.slice (some ⟨g2, o2, none⟩) M cc).ownBlock = some q → q < E from fun q hq => by cases hq; show g2 < E; have := LE.out; have := HGL.out; omega)
          have mk8 : x.k.tmod 8 = x.k % 8 := Int.tmod_eq_emod_of_nonneg r1.1
          have mb12 : x.b.tmod 12 = x.b % 12 := Int.tmod_eq_emod_of_nonneg r3.1
          have mb30 : x.b.tmod 30 = x.b % 30 := Int.tmod_eq_emod_of_nonneg r3.1
          have mc6 : x.c.tmod 6 = x.c % 6 := Int.tmod_eq_emod_of_nonneg r4.1
          have mc26 : x.c.tmod 26 = x.c % 26 := Int.tmod_eq_emod_of_nonneg r4.1
          have ka0 := MS.out.a 0 (.int .u8 x.k) rfl
          obtain ⟨m8, hm8⟩ : ∃ m8, x.k % 8 = m8 := ⟨_, rfl⟩
          rw [hm8] at mk8
          clear hm8
          by_cases h1 : m8 = 1
          · have e1 : (m8 == 1) = true := by simpa using h1
            have u0 := MS.out.e 0 (.int .i64 y.id) rfl
            clear h1
            go_wp2_with fail
            refine (rdrop_any wb _ C y.id HRX.out (by have := HG.out.len; omega)).mono ?_
            rintro r w5 ⟨dv, rfl, ho5, t5⟩
            have HR5 := Lib.hid (own_rowV ho5)
            have HC5 := Lib.hid (HRX.out.turn t5 (fun _ _ => id))
            have T5 := Lib.hid (MS.out.t.trans t5 (fun _ _ => id))
            have HK5 := Lib.hid (kinds_drop (nr := y.id) HG.out.kind)
            have HL5 := Lib.hid (show (dropE C y.id).length ≤ 1000 by have := dropE_len C y.id; have := HG.out.len; omega)
            clear ho5 t5 u0 ka0
            go_wp2_with fail
            refine (check_any w5 _ (dropE C y.id) HR5.out HL5.out).mono ?_
            rintro r w6 ⟨rfl, t6⟩
            have HR6 := Lib.hid (HR5.out.turn t6 (fun _ _ => id))
            have HROW6 := Lib.hid (HC5.out.turn t6 (fun _ _ => id))
            have T6 := Lib.hid (T5.out.trans t6 (fun _ _ => id))
            obtain ⟨R1, hR1⟩ : ∃ R1, (checkE (dropE C y.id)).1 = R1 := ⟨_, rfl⟩
            obtain ⟨R2, hR2⟩ : ∃ R2, (checkE (dropE C y.id)).2 = R2 := ⟨_, rfl⟩
            rw [hR1, hR2]
            have HR1E := Lib.hid hR1
            clear t6 hR1 hR2
            by_cases h0 : R1 = 0
            · have d0 : (R1 == 0) = true := by simpa using h0
              have HF := Lib.hid (show GoodE (dropE C y.id) from ⟨by rw [HR1E.out]; exact h0, HK5.out⟩)
              clear h0
              go_wp2_with fail
              go_roundw
              case rel => exact ⟨k + 1, _, by omega, by omega, by go_num, HR6.out, HF.out, T6.out⟩
              case measure => simp [intOf]; omega
            · have d0 : (R1 == 0) = false := by simpa using h0
              clear h0
              go_wp2_with fail
              go_roundw
              case rel => exact ⟨k + 1, _, by omega, by omega, by go_num, HROW6.out, HG.out, T6.out⟩
              case measure => simp [intOf]; omega
          have e1 : (m8 == 1) = false := by simpa using h1
          clear h1
          by_cases h2 : m8 = 2
          · have e2 : (m8 == 2) = true := by simpa using h2
            clear h2
            have ka2 := MS.out.a 2 (.int .u8 x.b) rfl
            go_wp2_with (with_reducible (show wpList _ _ _ (Oper.mk none (.store 3 (.tmp 98) (.tmp 97)) _ _ _ _ :: _) _ _); refine still ?_)
            refine list_set1 wb E 38 3 _ 2 (.int .i64 (x.b % 12)) MS.out.he (show 2 < 10 by decide) rfl rfl (by kernel_rfl) rfl (.tmp 98) (.tmp 97) rfl rfl rfl (fun wn h2 t2 => ?_)
            have HRS := Lib.hid (HRX.out.turn2 t2 (fun _ q hq e => by have := HNE.out q hq; omega))
            have MS := Lib.hid (MS.out.set (e' := { y with par := x.b % 12 }) h2 t2 rfl)
            clear h2 t2
            clear ka2 ka0
            go_wp2_with (with_reducible (show wpList _ _ _ (Oper.mk (some 100) (.load 38 (.tmp 9)) _ _ _ _ :: _) _ _); refine still ?_)
            refine wpList_load_mid rfl 38 (.tmp 9) rfl E 0 rfl (El.vals { y with par := x.b % 12 }) _ (range_of MS.out.he) Try.underlying38 rfl el_info ?_
            obtain ⟨z, hz⟩ : ∃ z : El, { y with par := x.b % 12 } = z := ⟨_, rfl⟩
            have HKZ := Lib.hid (show 0 ≤ z.kind ∧ z.kind ≤ 255 by rw [← hz]; exact HKY.out)
            rw [hz]
            clear hz
            go_wp2_with fail
            refine (rput_good wn _ C z HRS.out HG.out).mono ?_
            rintro r w5 ⟨dv, rfl, hrow5, t5⟩
            have HR5 := Lib.hid hrow5
            have HC5 := Lib.hid (HRS.out.turn t5 (fun _ _ => id))
            have T5 := Lib.hid (MS.out.t.trans t5 (fun _ _ => id))
            have HK5 := Lib.hid (kinds_put (e := z) HG.out.kind HKZ.out)
            have HL5 := Lib.hid (show (putE C z).length ≤ 1000 by have := putE_len C z; have := HG.out.len; omega)
            clear hrow5 t5
            go_wp2_with fail
            refine (check_any w5 _ (putE C z) HR5.out HL5.out).mono ?_
            rintro r w6 ⟨rfl, t6⟩
            have HR6 := Lib.hid (HR5.out.turn t6 (fun _ _ => id))
            have HROW6 := Lib.hid (HC5.out.turn t6 (fun _ _ => id))
            have T6 := Lib.hid (T5.out.trans t6 (fun _ _ => id))
            obtain ⟨R1, hR1⟩ : ∃ R1, (checkE (putE C z)).1 = R1 := ⟨_, rfl⟩
            obtain ⟨R2, hR2⟩ : ∃ R2, (checkE (putE C z)).2 = R2 := ⟨_, rfl⟩
            rw [hR1, hR2]
            have HR1E := Lib.hid hR1
            clear t6 hR1 hR2
            by_cases h0 : R1 = 0
            · have d0 : (R1 == 0) = true := by simpa using h0
              have HF := Lib.hid (show GoodE (putE C z) from ⟨by rw [HR1E.out]; exact h0, HK5.out⟩)
              clear h0
              go_wp2_with fail
              go_roundw
              case rel => exact ⟨k + 1, _, by omega, by omega, by go_num, HR6.out, HF.out, T6.out⟩
              case measure => simp [intOf]; omega
            · have d0 : (R1 == 0) = false := by simpa using h0
              clear h0
              go_wp2_with fail
              go_roundw
              case rel => exact ⟨k + 1, _, by omega, by omega, by go_num, HROW6.out, HG.out, T6.out⟩
              case measure => simp [intOf]; omega
          have e2 : (m8 == 2) = false := by simpa using h2
          clear h2
          by_cases h3 : m8 = 3
          · have e3 : (m8 == 3) = true := by simpa using h3
            clear h3
            have ka3 := MS.out.a 3 (.int .u8 x.c) rfl
            go_wp2_with (with_reducible (show wpList _ _ _ (Oper.mk none (.store 3 (.tmp 108) (.tmp 107)) _ _ _ _ :: _) _ _); refine still ?_)
            refine list_set1 wb E 38 3 _ 3 (.int .i64 (x.c % 6)) MS.out.he (show 3 < 10 by decide) rfl rfl (by kernel_rfl) rfl (.tmp 108) (.tmp 107) rfl rfl rfl (fun wn h2 t2 => ?_)
            have HRS := Lib.hid (HRX.out.turn2 t2 (fun _ q hq e => by have := HNE.out q hq; omega))
            have MS := Lib.hid (MS.out.set (e' := { y with ord := x.c % 6 }) h2 t2 rfl)
            clear h2 t2
            clear ka3 ka0
            go_wp2_with (with_reducible (show wpList _ _ _ (Oper.mk (some 110) (.load 38 (.tmp 9)) _ _ _ _ :: _) _ _); refine still ?_)
            refine wpList_load_mid rfl 38 (.tmp 9) rfl E 0 rfl (El.vals { y with ord := x.c % 6 }) _ (range_of MS.out.he) Try.underlying38 rfl el_info ?_
            obtain ⟨z, hz⟩ : ∃ z : El, { y with ord := x.c % 6 } = z := ⟨_, rfl⟩
            have HKZ := Lib.hid (show 0 ≤ z.kind ∧ z.kind ≤ 255 by rw [← hz]; exact HKY.out)
            rw [hz]
            clear hz
            go_wp2_with fail
            refine (rput_good wn _ C z HRS.out HG.out).mono ?_
            rintro r w5 ⟨dv, rfl, hrow5, t5⟩
            have HR5 := Lib.hid hrow5
            have HC5 := Lib.hid (HRS.out.turn t5 (fun _ _ => id))
            have T5 := Lib.hid (MS.out.t.trans t5 (fun _ _ => id))
            have HK5 := Lib.hid (kinds_put (e := z) HG.out.kind HKZ.out)
            have HL5 := Lib.hid (show (putE C z).length ≤ 1000 by have := putE_len C z; have := HG.out.len; omega)
            clear hrow5 t5
            go_wp2_with fail
            refine (check_any w5 _ (putE C z) HR5.out HL5.out).mono ?_
            rintro r w6 ⟨rfl, t6⟩
            have HR6 := Lib.hid (HR5.out.turn t6 (fun _ _ => id))
            have HROW6 := Lib.hid (HC5.out.turn t6 (fun _ _ => id))
            have T6 := Lib.hid (T5.out.trans t6 (fun _ _ => id))
            obtain ⟨R1, hR1⟩ : ∃ R1, (checkE (putE C z)).1 = R1 := ⟨_, rfl⟩
            obtain ⟨R2, hR2⟩ : ∃ R2, (checkE (putE C z)).2 = R2 := ⟨_, rfl⟩
            rw [hR1, hR2]
            have HR1E := Lib.hid hR1
            clear t6 hR1 hR2
            by_cases h0 : R1 = 0
            · have d0 : (R1 == 0) = true := by simpa using h0
              have HF := Lib.hid (show GoodE (putE C z) from ⟨by rw [HR1E.out]; exact h0, HK5.out⟩)
              clear h0
              go_wp2_with fail
              go_roundw
              case rel => exact ⟨k + 1, _, by omega, by omega, by go_num, HR6.out, HF.out, T6.out⟩
              case measure => simp [intOf]; omega
            · have d0 : (R1 == 0) = false := by simpa using h0
              clear h0
              go_wp2_with fail
              go_roundw
              case rel => exact ⟨k + 1, _, by omega, by omega, by go_num, HROW6.out, HG.out, T6.out⟩
              case measure => simp [intOf]; omega
          have e3 : (m8 == 3) = false := by simpa using h3
          clear h3
          by_cases h5 : m8 = 5
          · have e5 : (m8 == 5) = true := by simpa using h5
            clear h5
            have ka2 := MS.out.a 2 (.int .u8 x.b) rfl
            go_wp2_with (with_reducible (show wpList _ _ _ (Oper.mk none (.store 3 (.tmp 119) (.tmp 118)) _ _ _ _ :: _) _ _); refine still ?_)
            refine list_set1 wb E 38 3 _ 6 (.int .i64 (1 + x.b % 30)) MS.out.he (show 6 < 10 by decide) rfl rfl (by kernel_rfl) rfl (.tmp 119) (.tmp 118) rfl rfl rfl (fun wn h2 t2 => ?_)
            have HRS := Lib.hid (HRX.out.turn2 t2 (fun _ q hq e => by have := HNE.out q hq; omega))
            have MS := Lib.hid (MS.out.set (e' := (⟨y.id, y.kind, y.par, y.ord, y.name, y.frm, 1 + x.b % 30, y.ev, y.gd, y.ac⟩ : El)) h2 t2 rfl)
            clear h2 t2
            clear ka2 ka0
            go_wp2_with (with_reducible (show wpList _ _ _ (Oper.mk (some 121) (.load 38 (.tmp 9)) _ _ _ _ :: _) _ _); refine still ?_)
            refine wpList_load_mid rfl 38 (.tmp 9) rfl E 0 rfl (El.vals (⟨y.id, y.kind, y.par, y.ord, y.name, y.frm, 1 + x.b % 30, y.ev, y.gd, y.ac⟩ : El)) _ (range_of MS.out.he) Try.underlying38 rfl el_info ?_
            obtain ⟨z, hz⟩ : ∃ z : El, (⟨y.id, y.kind, y.par, y.ord, y.name, y.frm, 1 + x.b % 30, y.ev, y.gd, y.ac⟩ : El) = z := ⟨_, rfl⟩
            have HKZ := Lib.hid (show 0 ≤ z.kind ∧ z.kind ≤ 255 by rw [← hz]; exact HKY.out)
            rw [hz]
            clear hz
            go_wp2_with fail
            refine (rput_good wn _ C z HRS.out HG.out).mono ?_
            rintro r w5 ⟨dv, rfl, hrow5, t5⟩
            have HR5 := Lib.hid hrow5
            have HC5 := Lib.hid (HRS.out.turn t5 (fun _ _ => id))
            have T5 := Lib.hid (MS.out.t.trans t5 (fun _ _ => id))
            have HK5 := Lib.hid (kinds_put (e := z) HG.out.kind HKZ.out)
            have HL5 := Lib.hid (show (putE C z).length ≤ 1000 by have := putE_len C z; have := HG.out.len; omega)
            clear hrow5 t5
            go_wp2_with fail
            refine (check_any w5 _ (putE C z) HR5.out HL5.out).mono ?_
            rintro r w6 ⟨rfl, t6⟩
            have HR6 := Lib.hid (HR5.out.turn t6 (fun _ _ => id))
            have HROW6 := Lib.hid (HC5.out.turn t6 (fun _ _ => id))
            have T6 := Lib.hid (T5.out.trans t6 (fun _ _ => id))
            obtain ⟨R1, hR1⟩ : ∃ R1, (checkE (putE C z)).1 = R1 := ⟨_, rfl⟩
            obtain ⟨R2, hR2⟩ : ∃ R2, (checkE (putE C z)).2 = R2 := ⟨_, rfl⟩
            rw [hR1, hR2]
            have HR1E := Lib.hid hR1
            clear t6 hR1 hR2
            by_cases h0 : R1 = 0
            · have d0 : (R1 == 0) = true := by simpa using h0
              have HF := Lib.hid (show GoodE (putE C z) from ⟨by rw [HR1E.out]; exact h0, HK5.out⟩)
              clear h0
              go_wp2_with fail
              go_roundw
              case rel => exact ⟨k + 1, _, by omega, by omega, by go_num, HR6.out, HF.out, T6.out⟩
              case measure => simp [intOf]; omega
            · have d0 : (R1 == 0) = false := by simpa using h0
              clear h0
              go_wp2_with fail
              go_roundw
              case rel => exact ⟨k + 1, _, by omega, by omega, by go_num, HROW6.out, HG.out, T6.out⟩
              case measure => simp [intOf]; omega
          have e5 : (m8 == 5) = false := by simpa using h5
          clear h5
          by_cases h6 : m8 = 6
          · have e6 : (m8 == 6) = true := by simpa using h6
            clear h6
            have ka3 := MS.out.a 3 (.int .u8 x.c) rfl
            go_wp2_with fail
            refine (rtext_any x.c (by omega) wb).mono ?_
            rintro r wt ⟨rfl, t2⟩
            have MS := Lib.hid (MS.out.turn t2)
            have HRX := Lib.hid (HRX.out.turn t2 (fun _ _ => id))
            clear t2 ka3 ka0
            go_wp2_with (with_reducible (show wpList _ _ _ (Oper.mk none (.store 9 (.tmp 129) (.tmp 128)) _ _ _ _ :: _) _ _); refine still ?_)
            refine list_set1 wt E 38 9 _ 7 (.string (textE x.c)) MS.out.he (show 7 < 10 by decide) rfl rfl (by kernel_rfl) rfl (.tmp 129) (.tmp 128) rfl rfl rfl (fun wn h2 t2 => ?_)
            have HRS := Lib.hid (HRX.out.turn2 t2 (fun _ q hq e => by have := HNE.out q hq; omega))
            have MS := Lib.hid (MS.out.set (e' := { y with ev := textE x.c }) h2 t2 rfl)
            clear h2 t2
            go_wp2_with (with_reducible (show wpList _ _ _ (Oper.mk (some 131) (.load 38 (.tmp 9)) _ _ _ _ :: _) _ _); refine still ?_)
            refine wpList_load_mid rfl 38 (.tmp 9) rfl E 0 rfl (El.vals { y with ev := textE x.c }) _ (range_of MS.out.he) Try.underlying38 rfl el_info ?_
            obtain ⟨z, hz⟩ : ∃ z : El, { y with ev := textE x.c } = z := ⟨_, rfl⟩
            have HKZ := Lib.hid (show 0 ≤ z.kind ∧ z.kind ≤ 255 by rw [← hz]; exact HKY.out)
            rw [hz]
            clear hz
            go_wp2_with fail
            refine (rput_good wn _ C z HRS.out HG.out).mono ?_
            rintro r w5 ⟨dv, rfl, hrow5, t5⟩
            have HR5 := Lib.hid hrow5
            have HC5 := Lib.hid (HRS.out.turn t5 (fun _ _ => id))
            have T5 := Lib.hid (MS.out.t.trans t5 (fun _ _ => id))
            have HK5 := Lib.hid (kinds_put (e := z) HG.out.kind HKZ.out)
            have HL5 := Lib.hid (show (putE C z).length ≤ 1000 by have := putE_len C z; have := HG.out.len; omega)
            clear hrow5 t5
            go_wp2_with fail
            refine (check_any w5 _ (putE C z) HR5.out HL5.out).mono ?_
            rintro r w6 ⟨rfl, t6⟩
            have HR6 := Lib.hid (HR5.out.turn t6 (fun _ _ => id))
            have HROW6 := Lib.hid (HC5.out.turn t6 (fun _ _ => id))
            have T6 := Lib.hid (T5.out.trans t6 (fun _ _ => id))
            obtain ⟨R1, hR1⟩ : ∃ R1, (checkE (putE C z)).1 = R1 := ⟨_, rfl⟩
            obtain ⟨R2, hR2⟩ : ∃ R2, (checkE (putE C z)).2 = R2 := ⟨_, rfl⟩
            rw [hR1, hR2]
            have HR1E := Lib.hid hR1
            clear t6 hR1 hR2
            by_cases h0 : R1 = 0
            · have d0 : (R1 == 0) = true := by simpa using h0
              have HF := Lib.hid (show GoodE (putE C z) from ⟨by rw [HR1E.out]; exact h0, HK5.out⟩)
              clear h0
              go_wp2_with fail
              go_roundw
              case rel => exact ⟨k + 1, _, by omega, by omega, by go_num, HR6.out, HF.out, T6.out⟩
              case measure => simp [intOf]; omega
            · have d0 : (R1 == 0) = false := by simpa using h0
              clear h0
              go_wp2_with fail
              go_roundw
              case rel => exact ⟨k + 1, _, by omega, by omega, by go_num, HROW6.out, HG.out, T6.out⟩
              case measure => simp [intOf]; omega
          have e6 : (m8 == 6) = false := by simpa using h6
          clear h6
          go_wp2_with (with_reducible (show wpList _ _ _ (Oper.mk (some 68) (.load 38 (.tmp 9)) _ _ _ _ :: _) _ _); refine still ?_)
          refine wpList_load_mid rfl 38 (.tmp 9) rfl E 0 rfl y.vals _ (range_of MS.out.he) Try.underlying38 rfl el_info ?_
          go_wp2_with fail
          refine (named_any y wb).mono ?_
          rintro r wn0 ⟨rfl, t2⟩
          have MS := Lib.hid (MS.out.turn t2)
          have HRX := Lib.hid (HRX.out.turn t2 (fun _ _ => id))
          clear t2 ka0
          obtain ⟨nb, hnb⟩ : ∃ nb, namedE y = nb := ⟨_, rfl⟩
          rw [hnb]
          clear hnb
          cases nb
          · skip
            have ka2 := MS.out.a 2 (.int .u8 x.b) rfl
            go_wp2_with fail
            refine (rtext_any x.b (by omega) wn0).mono ?_
            rintro r wt ⟨rfl, t2⟩
            have MS := Lib.hid (MS.out.turn t2)
            have HRX := Lib.hid (HRX.out.turn t2 (fun _ _ => id))
            clear t2 ka2
            go_wp2_with (with_reducible (show wpList _ _ _ (Oper.mk none (.store 9 (.tmp 82) (.tmp 81)) _ _ _ _ :: _) _ _); refine still ?_)
            refine list_set1 wt E 38 9 _ 8 (.string (textE x.b)) MS.out.he (show 8 < 10 by decide) rfl rfl (by kernel_rfl) rfl (.tmp 82) (.tmp 81) rfl rfl rfl (fun wn h2 t2 => ?_)
            have HRS := Lib.hid (HRX.out.turn2 t2 (fun _ q hq e => by have := HNE.out q hq; omega))
            have MS := Lib.hid (MS.out.set (e' := { y with gd := textE x.b }) h2 t2 rfl)
            clear h2 t2
            go_wp2_with (with_reducible (show wpList _ _ _ (Oper.mk (some 84) (.load 38 (.tmp 9)) _ _ _ _ :: _) _ _); refine still ?_)
            refine wpList_load_mid rfl 38 (.tmp 9) rfl E 0 rfl (El.vals { y with gd := textE x.b }) _ (range_of MS.out.he) Try.underlying38 rfl el_info ?_
            obtain ⟨z, hz⟩ : ∃ z : El, { y with gd := textE x.b } = z := ⟨_, rfl⟩
            have HKZ := Lib.hid (show 0 ≤ z.kind ∧ z.kind ≤ 255 by rw [← hz]; exact HKY.out)
            rw [hz]
            clear hz
            go_wp2_with fail
            refine (rput_good wn _ C z HRS.out HG.out).mono ?_
            rintro r w5 ⟨dv, rfl, hrow5, t5⟩
            have HR5 := Lib.hid hrow5
            have HC5 := Lib.hid (HRS.out.turn t5 (fun _ _ => id))
            have T5 := Lib.hid (MS.out.t.trans t5 (fun _ _ => id))
            have HK5 := Lib.hid (kinds_put (e := z) HG.out.kind HKZ.out)
            have HL5 := Lib.hid (show (putE C z).length ≤ 1000 by have := putE_len C z; have := HG.out.len; omega)
            clear hrow5 t5
            go_wp2_with fail
            refine (check_any w5 _ (putE C z) HR5.out HL5.out).mono ?_
            rintro r w6 ⟨rfl, t6⟩
            have HR6 := Lib.hid (HR5.out.turn t6 (fun _ _ => id))
            have HROW6 := Lib.hid (HC5.out.turn t6 (fun _ _ => id))
            have T6 := Lib.hid (T5.out.trans t6 (fun _ _ => id))
            obtain ⟨R1, hR1⟩ : ∃ R1, (checkE (putE C z)).1 = R1 := ⟨_, rfl⟩
            obtain ⟨R2, hR2⟩ : ∃ R2, (checkE (putE C z)).2 = R2 := ⟨_, rfl⟩
            rw [hR1, hR2]
            have HR1E := Lib.hid hR1
            clear t6 hR1 hR2
            by_cases h0 : R1 = 0
            · have d0 : (R1 == 0) = true := by simpa using h0
              have HF := Lib.hid (show GoodE (putE C z) from ⟨by rw [HR1E.out]; exact h0, HK5.out⟩)
              clear h0
              go_wp2_with fail
              go_roundw
              case rel => exact ⟨k + 1, _, by omega, by omega, by go_num, HR6.out, HF.out, T6.out⟩
              case measure => simp [intOf]; omega
            · have d0 : (R1 == 0) = false := by simpa using h0
              clear h0
              go_wp2_with fail
              go_roundw
              case rel => exact ⟨k + 1, _, by omega, by omega, by go_num, HROW6.out, HG.out, T6.out⟩
              case measure => simp [intOf]; omega
          · have hb := box_alloc wn0 5 [.int .u8 (97 + x.c % 26)]
            have hr : Reads (wn0.alloc (.cells #[.int .u8 (97 + x.c % 26)] 5)) (.slice (some ⟨wn0.heap.size, 0, none⟩) 1 1) [97 + x.c % 26] := by
              refine .inr ⟨wn0.heap.size, 0, 1, rfl, Nat.le_refl _, fun i hi => ?_⟩
              rw [cell_of_row _ _ _ _ 5 (0, 0) (heap_alloc_new wn0 _)]
              have : i = 0 := by simp at hi; omega
              subst this; rfl
            have hcv := hr.conv
            have t1 : Turn (fun _ => False) wn0 (wn0.alloc (.cells #[.int .u8 (97 + x.c % 26)] 5)) := hb.turn
            obtain ⟨wo, hwo⟩ : ∃ wo, wn0.alloc (.cells #[.int .u8 (97 + x.c % 26)] 5) = wo := ⟨_, rfl⟩
            rw [hwo] at hcv t1
            obtain ⟨S, hS⟩ : ∃ S, strOfNums [97 + x.c % 26] = S := ⟨_, rfl⟩
            rw [hS] at hcv
            have hsz : S.size = 1 := by rw [← hS]; rfl
            have MSO := Lib.hid (MS.out.turn t1)
            have HRO := Lib.hid (HRX.out.turn t1 (fun _ _ => id))
            have ka3 := MS.out.a 3 (.int .u8 x.c) rfl
            clear hb hr t1 hS
            have MS := MSO
            have HRX := HRO
            go_wp2_with (with_reducible (show wpList _ _ _ (Oper.mk none (.store 9 (.tmp 77) (.tmp 76)) _ _ _ _ :: _) _ _); refine still ?_)
            refine list_set1 wo E 38 9 _ 4 (.string (({ data := #[109] } : ByteArray) ++ S)) MS.out.he (show 4 < 10 by decide) rfl rfl (by kernel_rfl) rfl (.tmp 77) (.tmp 76) rfl rfl rfl (fun wn h2 t2 => ?_)
            have HRS := Lib.hid (HRX.out.turn2 t2 (fun _ q hq e => by have := HNE.out q hq; omega))
            have MS := Lib.hid (MS.out.set (e' := { y with name := ({ data := #[109] } : ByteArray) ++ S }) h2 t2 rfl)
            clear h2 t2
            clear hcv hwo ka3 hsz
            go_wp2_with (with_reducible (show wpList _ _ _ (Oper.mk (some 84) (.load 38 (.tmp 9)) _ _ _ _ :: _) _ _); refine still ?_)
            refine wpList_load_mid rfl 38 (.tmp 9) rfl E 0 rfl (El.vals { y with name := ({ data := #[109] } : ByteArray) ++ S }) _ (range_of MS.out.he) Try.underlying38 rfl el_info ?_
            obtain ⟨z, hz⟩ : ∃ z : El, { y with name := ({ data := #[109] } : ByteArray) ++ S } = z := ⟨_, rfl⟩
            have HKZ := Lib.hid (show 0 ≤ z.kind ∧ z.kind ≤ 255 by rw [← hz]; exact HKY.out)
            rw [hz]
            clear hz
            go_wp2_with fail
            refine (rput_good wn _ C z HRS.out HG.out).mono ?_
            rintro r w5 ⟨dv, rfl, hrow5, t5⟩
            have HR5 := Lib.hid hrow5
            have HC5 := Lib.hid (HRS.out.turn t5 (fun _ _ => id))
            have T5 := Lib.hid (MS.out.t.trans t5 (fun _ _ => id))
            have HK5 := Lib.hid (kinds_put (e := z) HG.out.kind HKZ.out)
            have HL5 := Lib.hid (show (putE C z).length ≤ 1000 by have := putE_len C z; have := HG.out.len; omega)
            clear hrow5 t5
            go_wp2_with fail
            refine (check_any w5 _ (putE C z) HR5.out HL5.out).mono ?_
            rintro r w6 ⟨rfl, t6⟩
            have HR6 := Lib.hid (HR5.out.turn t6 (fun _ _ => id))
            have HROW6 := Lib.hid (HC5.out.turn t6 (fun _ _ => id))
            have T6 := Lib.hid (T5.out.trans t6 (fun _ _ => id))
            obtain ⟨R1, hR1⟩ : ∃ R1, (checkE (putE C z)).1 = R1 := ⟨_, rfl⟩
            obtain ⟨R2, hR2⟩ : ∃ R2, (checkE (putE C z)).2 = R2 := ⟨_, rfl⟩
            rw [hR1, hR2]
            have HR1E := Lib.hid hR1
            clear t6 hR1 hR2
            by_cases h0 : R1 = 0
            · have d0 : (R1 == 0) = true := by simpa using h0
              have HF := Lib.hid (show GoodE (putE C z) from ⟨by rw [HR1E.out]; exact h0, HK5.out⟩)
              clear h0
              go_wp2_with fail
              go_roundw
              case rel => exact ⟨k + 1, _, by omega, by omega, by go_num, HR6.out, HF.out, T6.out⟩
              case measure => simp [intOf]; omega
            · have d0 : (R1 == 0) = false := by simpa using h0
              clear h0
              go_wp2_with fail
              go_roundw
              case rel => exact ⟨k + 1, _, by omega, by omega, by go_num, HROW6.out, HG.out, T6.out⟩
              case measure => simp [intOf]; omega
    · by_cases hkn : k < n
      · have dk : decide ((k : Int) < (n : Int)) = true := decide_eq_true (by omega)
        have dk2 : decide ((k : Int) < 12) = false := decide_eq_false (by omega)
        go_wp2_with fail
        go_ret
        exact ⟨_, _, rfl, HROW.out, HG.out, HTR.out⟩
      · have dk : decide ((k : Int) < (n : Int)) = false := decide_eq_false (by omega)
        go_wp2_with fail
        go_ret
        exact ⟨_, _, rfl, HROW.out, HG.out, HTR.out⟩

end Go.Proofs.Ytkciaafkhpjnaaa
