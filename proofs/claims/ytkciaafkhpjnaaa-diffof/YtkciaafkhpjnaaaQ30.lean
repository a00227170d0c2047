/- Own texts, packed: Se. No statement is proved here. -/
import Derived.Test.YtkciaafkhpjnaaaQ20
import Derived.Test.YtkciaafkhpjnaaaQ29
import Derived.Test.YtkciaafkhpjnaaaQ21
import Derived.Test.YtkciaafkhpjnaaaQ09
import Derived.Deep.RegionHeld3
namespace Go.Proofs.Ytkciaafkhpjnaaa
set_option maxRecDepth 100000
open Go.RowKit
set_option linter.unusedVariables false
set_option linter.unusedSimpArgs false

theorem setsE_step (a b : List El) (i : Nat) (hi : i < a.length) : setsE (a.take (i + 1)) b = setsE (a.take i) b ++ setsAt b (a.getD i el0) := by
  unfold setsE
  rw [take_snoc a i hi, List.flatMap_append]
  simp
theorem blk_neE {w : World} {base B : Nat} {yv : Value} {ys : List Ed} {cs : Array Value} {T : TypeId} (hy : OwE base w yv ys) (hB : w.heap[B]? = some (.cells cs T (0, 0))) (hT : T ≠ 53) : ¬ yv.ownBlock = some B := fun e => by
  obtain ⟨_, _, cs', h⟩ := own_blk_of hy e
  rw [hB] at h
  injection h with h
  injection h with _ h4 _
  exact hT h4
set_option maxHeartbeats 16000000 in
theorem sets_any (w : World) (va vb : Value) (a b : List El) (ha : RowV w va a) (hb : RowV w vb b) (hrb : Rises b) (hka : KOk a) (hkb : KOk b) (hla : a.length ≤ 100) (hlb : b.length ≤ 100) : Calls Try.prog 31 #[va, vb] w (NewEds w (setsE a b)) := by
  obtain ⟨la, lc, rfl⟩ := ha.form
  obtain ⟨n, hn⟩ : ∃ n, a.length = n := ⟨_, rfl⟩
  simp only [hn] at ha hla ⊢
  have HA := Lib.hid ha
  have HB := Lib.hid hb
  have HRB := Lib.hid hrb
  have HKA := Lib.hid hka
  have HKB := Lib.hid hkb
  have HN := Lib.hid hn
  have HLB := Lib.hid (show b.length ≤ 1000 by omega)
  have hn1 : n ≤ 100 := hla
  clear ha hb hrb hka hkb hn hla hlb
  go_enter Try.func31, Try.ntmps31
  go_wp2_with fail
  go_loopw [5, 14] (fun lv iv wr => ∃ i : Nat, i ≤ n ∧ iv = .int .i64 (i : Int) ∧ OwE w.heap.size wr lv (setsE (a.take i) b) ∧ Turn (fun _ => False) w wr) (fun _ iv _ => n - (intOf iv).toNat)
  case atStart => exact ⟨0, Nat.zero_le _, rfl, World.ownsRow_nil _ _ _ _, Turn.refl _ _⟩
  case round =>
    obtain ⟨i, hin, rfl, how, htr⟩ := hrel
    have HOW := Lib.hid how
    have HT := Lib.hid htr
    clear how htr
    by_cases hlt : i < n
    · have gi : (0 : Int) ≤ (i : Int) ∧ (i : Int) < (n : Int) := by omega
      have dk : decide ((i : Int) < (n : Int)) = true := decide_eq_true (by omega)
      obtain ⟨g, o, rfl, hcc, hs⟩ := (HA.out.turn HT.out (fun _ _ => id)).one HN.out i hlt
      have hxm := getD_mem (l := a) (k := i) (by rw [HN.out]; exact hlt)
      have hss := setsE_step a b i (by rw [HN.out]; exact hlt)
      have hkx := HKA.out _ hxm
      obtain ⟨x, hx⟩ : ∃ x, a.getD i el0 = x := ⟨_, rfl⟩
      rw [hx] at hs hss hkx
      have HS := Lib.hid hs
      have HSS := Lib.hid hss
      have HKX := Lib.hid hkx
      have hcl : (setsE (a.take i) b).length ≤ 9 * 100 := by have := setsE_len (a.take i) b; rw [List.length_take] at this; omega
      obtain ⟨C, hC⟩ : ∃ C, setsE (a.take i) b = C := ⟨_, rfl⟩
      rw [hC] at hcl HOW HSS
      have HCL := Lib.hid hcl
      clear hx hs hss hkx hcc hxm hC hcl
      have hbb := box_alloc wr 38 el0.vals
      obtain ⟨X, hE⟩ : ∃ X, wr.heap.size = X := ⟨_, rfl⟩
      obtain ⟨wz, hwz⟩ : ∃ wz, wr.alloc (.cells el0.vals.toArray 38) = wz := ⟨_, rfl⟩
      have hx0 : ∀ ev op, op.op = .alloc 38 → (execOp ev op).run Try.prog wr = .ok (.value (.pointer (some ⟨X, 0, none⟩))) wz := fun ev op ho => by rw [← hwz, ← hE]; exact exec_zero24 ev op ho _
      rw [hwz] at hbb
      have hhh := hbb.heap
      rw [hE] at hhh
      have HX0 := Lib.hid hx0
      have HBB := Lib.hid hbb.turn
      have HHB := Lib.hid hhh
      have HEE := Lib.hid hE
      clear hbb hE hwz hx0 hhh
      go_wp2_with (with_reducible (show wpList _ _ _ (Oper.mk (some 17) (.load 38 (.tmp 16)) _ _ _ _ :: _) _ _); refine still ?_)
      refine wpList_load_mid rfl 38 (.tmp 16) rfl g (o + i * 10) rfl x.vals _ HS.out Try.underlying38 rfl el_info ?_
      go_wp2_with (with_reducible (show wpList _ _ _ (Oper.mk (some 7) (.alloc 38) _ _ _ _ :: _) _ _); refine still ?_)
      refine list_exec rfl _ _ (HX0.out _ _ rfl) ?_
      go_wp2_with (with_reducible (show wpList _ _ _ (Oper.mk none (.store 38 (.tmp 7) (.tmp 17)) _ _ _ _ :: _) _ _); refine still ?_)
      refine list_put wz X 38 el0.vals x.vals HHB.out rfl x.vals_one el_info rfl (.tmp 7) (.tmp 17) rfl rfl rfl (fun wa h2 t2 => ?_)
      have HX := Lib.hid h2
      have Twa := Lib.hid (show Turn (fun _ => False) wr wa from HBB.out.trans t2 (fun q hq e => by have := HEE.out; omega))
      have LX := Lib.hid (show wr.heap.size = X from HEE.out)
      clear h2 t2 HX0 HBB HHB HEE
      have HOW1 := Lib.hid (HOW.out.turn Twa.out (fun _ _ => id))
      have T1 := Lib.hid (HT.out.trans Twa.out (fun _ _ => id))
      have c0 := (range_of HX.out 0 _ rfl : wa.cell? ⟨X, 0, none⟩ = some (.int .i64 x.id))
      go_wp2_with fail
      refine (find2 wa vb b x.id (HB.out.turn T1.out (fun _ _ => id)) HRB.out HLB.out).mono ?_
      rintro r wb ⟨y, bb, rfl, hgy, tb⟩
      have HGY := Lib.hid hgy
      have TB := Lib.hid tb
      clear hgy tb c0
      have hbb := box_alloc wb 38 el0.vals
      obtain ⟨Y, hE⟩ : ∃ Y, wb.heap.size = Y := ⟨_, rfl⟩
      obtain ⟨wz, hwz⟩ : ∃ wz, wb.alloc (.cells el0.vals.toArray 38) = wz := ⟨_, rfl⟩
      have hx0 : ∀ ev op, op.op = .alloc 38 → (execOp ev op).run Try.prog wb = .ok (.value (.pointer (some ⟨Y, 0, none⟩))) wz := fun ev op ho => by rw [← hwz, ← hE]; exact exec_zero24 ev op ho _
      rw [hwz] at hbb
      have hhh := hbb.heap
      rw [hE] at hhh
      have HX0 := Lib.hid hx0
      have HBB := Lib.hid hbb.turn
      have HHB := Lib.hid hhh
      have HEE := Lib.hid hE
      clear hbb hE hwz hx0 hhh
      go_wp2_with (with_reducible (show wpList _ _ _ (Oper.mk (some 8) (.alloc 38) _ _ _ _ :: _) _ _); refine still ?_)
      refine list_exec rfl _ _ (HX0.out _ _ rfl) ?_
      go_wp2_with (with_reducible (show wpList _ _ _ (Oper.mk none (.store 38 (.tmp 8) (.tmp 23)) _ _ _ _ :: _) _ _); refine still ?_)
      refine list_put wz Y 38 el0.vals y.vals HHB.out rfl y.vals_one el_info rfl (.tmp 8) (.tmp 23) rfl rfl rfl (fun wc h2 t2 => ?_)
      have HY := Lib.hid h2
      have Twc := Lib.hid (show Turn (fun _ => False) wb wc from HBB.out.trans t2 (fun q hq e => by have := HEE.out; omega))
      have LY := Lib.hid (show wb.heap.size = Y from HEE.out)
      clear h2 t2 HX0 HBB HHB HEE
      have TC := Lib.hid (TB.out.trans Twc.out (fun _ _ => id))
      have HOW2 := Lib.hid (HOW1.out.turn TC.out (fun _ _ => id))
      have T2 := Lib.hid (T1.out.trans TC.out (fun _ _ => id))
      have HX2 := Lib.hid ((TC.out.block X (Array.getElem?_eq_some_iff.1 HX.out).1 id).trans HX.out)
      clear TC
      cases bb
      · have HE := Lib.hid (show setsAt b x = [] by
          rcases HGY.out with ⟨h1, _⟩ | ⟨_, h1, _⟩
          · cases h1
          · unfold setsAt; rw [h1])
        go_wp2_with fail
        go_roundw
        case rel => exact ⟨i + 1, by omega, by go_num, by rw [HSS.out, HE.out, List.append_nil]; exact HOW2.out, T2.out⟩
        case measure => simp [intOf]; omega
      · have HGE := Lib.hid (show getE b x.id = some y by
          rcases HGY.out with ⟨_, h1⟩ | ⟨h1, _⟩
          · exact h1
          · cases h1)
        have HE := Lib.hid (show setsAt b x = setsUpto x y 9 by unfold setsAt; rw [HGE.out]; rfl)
        have HKY := Lib.hid (HKB.out y (getE_some HGE.out).1)
        go_wp2_with fail
        go_loopw [5, 27] (fun lv fv ws => ∃ f : Nat, f ≤ 9 ∧ fv = .int .i64 (f : Int) ∧ OwE w.heap.size ws lv (C ++ setsUpto x y f) ∧ ws.heap[X]? = some (.cells x.vals.toArray 38 (0, 0)) ∧ ws.heap[Y]? = some (.cells y.vals.toArray 38 (0, 0)) ∧ Turn (fun _ => False) w ws) (fun _ fv _ => 9 - (intOf fv).toNat)
        case atStart => exact ⟨0, by omega, rfl, by have := HOW2.out; simpa [setsUpto] using this, HX2.out, HY.out, T2.out⟩
        case round =>
          obtain ⟨f, hf9, rfl, how3, hx3, hy3, ht3⟩ := hrel
          have HOW3 := Lib.hid how3
          have HX3 := Lib.hid hx3
          have HY3 := Lib.hid hy3
          have HT3 := Lib.hid ht3
          clear how3 hx3 hy3 ht3
          by_cases hlf : f < 9
          · have df : decide ((f : Int) < 9) = true := decide_eq_true (by omega)
            have hsu := setsUpto_succ x y f
            obtain ⟨pf, hpf⟩ : ∃ b, partF x y f = b := ⟨_, rfl⟩
            rw [hpf] at hsu
            have HPF := Lib.hid hpf
            have HSU := Lib.hid hsu
            clear hsu hpf
            obtain ⟨wx, hwx⟩ : ∃ wx, wr.drew = wx := ⟨_, rfl⟩
            have hdx : Turn (fun _ => False) wr wx := by rw [← hwx]; exact (Turn.refl (fun _ => False) wr).drew
            have OX := Lib.hid (HOW3.out.turn hdx (fun _ _ => id))
            have T3 := Lib.hid (HT3.out.trans hdx (fun _ _ => id))
            have HXX := Lib.hid ((hdx.block X (Array.getElem?_eq_some_iff.1 HX3.out).1 id).trans HX3.out)
            have HYY := Lib.hid ((hdx.block Y (Array.getElem?_eq_some_iff.1 HY3.out).1 id).trans HY3.out)
            have HSX := Lib.hid (range_of HXX.out)
            have HSY := Lib.hid (range_of HYY.out)
            have HWX := Lib.hid hwx
            have TT0 := Lib.hid (Turn.refl (fun _ => False) wx)
            clear hdx hwx
            go_wp2_with fail
            refine wp_region_held_drew (S := fun wq => wq.rangeAt X 0 x.vals ∧ wq.rangeAt Y 0 y.vals) (by kernel_rfl) (by rw [HWX.out]; exact ⟨HSX.out, HSY.out⟩) (fun hHeld => ?_)
            rw [HWX.out] at hHeld ⊢
            refine wpAnyH_take (i := 0) (v := .pointer (some ⟨X, 0, none⟩)) rfl (by kernel_rfl) (by kernel_rfl) (by kernel_rfl) (fun _ _ _ h => h) (Or.inl ⟨by rfl, ?yq8⟩) (by assumption) ?rq8
            case yq8 => (intro wq hSw; (try simp only [List.getElem_toArray, List.getElem_cons_zero, List.getElem_cons_succ]); go_simp; (try with_reducible rfl); all_goals (try omega))
            case rq8 =>
            try simp only [Act.put, List.setIfInBounds_toArray, List.set_cons_zero, List.set_cons_succ, List.getElem_toArray, List.getElem_cons_zero, List.getElem_cons_succ]
            refine wpAnyH_take (i := 1) (v := .int .i64 x.id) rfl (by kernel_rfl) (by kernel_rfl) (by kernel_rfl) (fun _ _ _ h => h) (Or.inl ⟨by rfl, ?yq9⟩) (by assumption) ?rq9
            case yq9 => (intro wq hSw; have z := range0 hSw.1; (try simp only [List.getElem_toArray, List.getElem_cons_zero, List.getElem_cons_succ]); go_simp)
            case rq9 =>
            try simp only [Act.put, List.setIfInBounds_toArray, List.set_cons_zero, List.set_cons_succ, List.getElem_toArray, List.getElem_cons_zero, List.getElem_cons_succ]
            refine wpAnyH_take (i := 2) (v := .agg (El.at x.id).vals.toArray) rfl (by kernel_rfl) (by kernel_rfl) (by kernel_rfl) (fun _ _ _ h => h) (Or.inl ⟨by rfl, ?yq10⟩) (by assumption) ?rq10
            case yq10 => (intro wq hSw; exact exec_build_at _ _ _ x.id rfl rfl _)
            case rq10 =>
            try simp only [Act.put, List.setIfInBounds_toArray, List.set_cons_zero, List.set_cons_succ, List.getElem_toArray, List.getElem_cons_zero, List.getElem_cons_succ]
            refine wpAnyH_take (i := 3) (v := .int .i64 (f : Int)) rfl (by kernel_rfl) (by kernel_rfl) (by kernel_rfl) (fun _ _ _ h => h) (Or.inl ⟨by rfl, ?yq11⟩) (by assumption) ?rq11
            case yq11 => (intro wq hSw; (try simp only [List.getElem_toArray, List.getElem_cons_zero, List.getElem_cons_succ]); go_simp; (try with_reducible rfl); all_goals (try omega))
            case rq11 =>
            try simp only [Act.put, List.setIfInBounds_toArray, List.set_cons_zero, List.set_cons_succ, List.getElem_toArray, List.getElem_cons_zero, List.getElem_cons_succ]
            refine wpAnyH_take (i := 4) (v := .agg x.vals.toArray) rfl (by kernel_rfl) (by kernel_rfl) (by kernel_rfl) (fun _ _ _ h => h) (Or.inl ⟨by rfl, ?yq12⟩) (by assumption) ?rq12
            case yq12 => (intro wq hSw; exact exec_load_mid _ _ 38 (.tmp 7) rfl X 0 rfl x.vals _ _ hSw.1 Try.underlying38 rfl el_info)
            case rq12 =>
            try simp only [Act.put, List.setIfInBounds_toArray, List.set_cons_zero, List.set_cons_succ, List.getElem_toArray, List.getElem_cons_zero, List.getElem_cons_succ]
            refine wpAnyH_take (i := 5) (v := .int .i64 (f : Int)) rfl (by kernel_rfl) (by kernel_rfl) (by kernel_rfl) (fun _ _ _ h => h) (Or.inl ⟨by rfl, ?yq13⟩) (by assumption) ?rq13
            case yq13 => (intro wq hSw; (try simp only [List.getElem_toArray, List.getElem_cons_zero, List.getElem_cons_succ]); go_simp; (try with_reducible rfl); all_goals (try omega))
            case rq13 =>
            try simp only [Act.put, List.setIfInBounds_toArray, List.set_cons_zero, List.set_cons_succ, List.getElem_toArray, List.getElem_cons_zero, List.getElem_cons_succ]
            refine wpAnyH_take (i := 7) (v := .agg y.vals.toArray) rfl (by kernel_rfl) (by kernel_rfl) (by kernel_rfl) (fun _ _ _ h => h) (Or.inl ⟨by rfl, ?yq14⟩) (by assumption) ?rq14
            case yq14 => (intro wq hSw; exact exec_load_mid _ _ 38 (.tmp 8) rfl Y 0 rfl y.vals _ _ hSw.2 Try.underlying38 rfl el_info)
            case rq14 =>
            try simp only [Act.put, List.setIfInBounds_toArray, List.set_cons_zero, List.set_cons_succ, List.getElem_toArray, List.getElem_cons_zero, List.getElem_cons_succ]
            refine wpAnyH_take (i := 8) (v := .int .i64 (f : Int)) rfl (by kernel_rfl) (by kernel_rfl) (by kernel_rfl) (fun _ _ _ h => h) (Or.inl ⟨by rfl, ?yq15⟩) (by assumption) ?rq15
            case yq15 => (intro wq hSw; (try simp only [List.getElem_toArray, List.getElem_cons_zero, List.getElem_cons_succ]); go_simp; (try with_reducible rfl); all_goals (try omega))
            case rq15 =>
            try simp only [Act.put, List.setIfInBounds_toArray, List.set_cons_zero, List.set_cons_succ, List.getElem_toArray, List.getElem_cons_zero, List.getElem_cons_succ]
            refine wpAnyH_ready (rs := [6, 11]) (by kernel_rfl) (by simp) ?_
            refine AllReadyH.cons rfl (fun K hK => ?_) (AllReadyH.cons rfl (fun K hK => ?_) AllReadyH.nil)
            · go_simp
              refine (get_any wx x (f : Int) HKX.out).mono ?_
              rintro r6 wp ⟨rfl, t6⟩
              have T6 := Lib.hid t6
              have TT1 := Lib.hid (TT0.out.trans t6 (fun _ _ => id))
              clear t6
              refine hK.out _ _ ⟨rangeAt_turn HSX.out TT1.out id, rangeAt_turn HSY.out TT1.out id⟩ (fun _ => ?_)
              clear hK K
              try simp only [Act.put, List.setIfInBounds_toArray, List.set_cons_zero, List.set_cons_succ, List.getElem_toArray, List.getElem_cons_zero, List.getElem_cons_succ]
              refine wpAnyH_ready (rs := [9, 11]) (by kernel_rfl) (by simp) ?_
              refine AllReadyH.cons rfl (fun K hK => ?_) (AllReadyH.cons rfl (fun K hK => ?_) AllReadyH.nil)
              · go_simp
                refine (get_any wp y (f : Int) HKY.out).mono ?_
                rintro r9 wq0 ⟨rfl, t9⟩
                have T9 := Lib.hid t9
                have TT2 := Lib.hid (TT1.out.trans t9 (fun _ _ => id))
                clear t9
                refine hK.out _ _ ⟨rangeAt_turn HSX.out TT2.out id, rangeAt_turn HSY.out TT2.out id⟩ (fun _ => ?_)
                clear hK K
                try simp only [Act.put, List.setIfInBounds_toArray, List.set_cons_zero, List.set_cons_succ, List.getElem_toArray, List.getElem_cons_zero, List.getElem_cons_succ]
                refine wpAnyH_take (i := 10) (v := .agg (setD x y (f : Int)).vals.toArray) rfl (by kernel_rfl) (by kernel_rfl) (by kernel_rfl) (fun _ _ _ h => h) (Or.inl ⟨by rfl, ?yq17⟩) (by assumption) ?rq17
                case yq17 => (intro wq hSw; exact exec_edS _ _ _ _ _ _ _ 3 (f : Int) _ _ _ _ (El.at x.id) rfl rfl rfl rfl rfl rfl _)
                case rq17 =>
                try simp only [Act.put, List.setIfInBounds_toArray, List.set_cons_zero, List.set_cons_succ, List.getElem_toArray, List.getElem_cons_zero, List.getElem_cons_succ]
                refine wpAnyH_ready (rs := [11]) (by kernel_rfl) (by simp) ?_
                refine AllReadyH.cons rfl (fun K hK => ?_) AllReadyH.nil
                obtain ⟨Z, hZ⟩ : ∃ Z, wq0.heap.size = Z := ⟨_, rfl⟩
                obtain ⟨wz, hwz⟩ : ∃ wz, wq0.alloc (.cells ed0.vals.toArray 53) = wz := ⟨_, rfl⟩
                have hxz : ∀ ev op, op.op = .alloc 53 → (execOp ev op).run Try.prog wq0 = .ok (.value (.pointer (some ⟨Z, 0, none⟩))) wz := fun ev op ho => by rw [← hwz, ← hZ]; exact exec_zero_ed ev op ho _
                have hbz := box_alloc wq0 53 ed0.vals
                rw [hwz] at hbz
                have hhz := hbz.heap
                rw [hZ] at hhz
                have HXZ := Lib.hid hxz
                have HHZ := Lib.hid hhz
                have TT3 := Lib.hid (TT2.out.trans hbz.turn (fun _ _ => id))
                have HZN := Lib.hid (show wx.heap.size ≤ Z by rw [← hZ]; exact TT2.out.size)
                have HZB := Lib.hid (show w.heap.size ≤ Z by rw [← hZ]; have := T3.out.size; have := TT2.out.size; omega)
                clear hZ hwz hxz hbz hhz
                refine oper_exec _ _ (HXZ.out _ _ rfl) ?_
                refine hK.out _ _ ⟨rangeAt_turn HSX.out TT3.out id, rangeAt_turn HSY.out TT3.out id⟩ (fun _ => ?_)
                clear hK K
                try simp only [Act.put, List.setIfInBounds_toArray, List.set_cons_zero, List.set_cons_succ, List.getElem_toArray, List.getElem_cons_zero, List.getElem_cons_succ]
                have HHZ2 := Lib.hid (show wz.heap[Z]? = some (.cells ed0.vals.toArray 53 (0, 0)) from HHZ.out)
                refine wpAnyH_ready (rs := [12]) (by kernel_rfl) (by simp) ?_
                refine AllReadyH.cons rfl (fun K hK => ?_) AllReadyH.nil
                rw [if_pos (by rfl)]
                refine wp_store_mid 53 (.tmp 11) (.tmp 40) rfl Z 0 (setD x y (f : Int)).vals.toArray rfl rfl (by have h16 : wz.there Z 0 16 := there_row HHZ2.out; exact h16) ed_info (all_oneCell_toArray (setD x y (f : Int)).vals_one) ?_
                obtain ⟨we, hwe⟩ : ∃ we, wz.setCells Z 0 (setD x y (f : Int)).vals.toArray.toList = we := ⟨_, rfl⟩
                have hz5 : we.heap[Z]? = some (.cells (setD x y (f : Int)).vals.toArray 53 (0, 0)) := by
                  rw [← hwe]
                  have := heap_setCells Z 53 (setD x y (f : Int)).vals 0 wz ed0.vals HHZ2.out (by show 0 + 16 ≤ 16; omega)
                  rw [this]
                  rfl
                have t5 : Turn (fun q => q = Z) wz we := by rw [← hwe]; exact turn_setCells Z _ 0 wz
                rw [hwe]
                have HZ5 := Lib.hid hz5
                have t6 : Turn (fun _ => False) wx we := (TT3.out.mono (fun _ _ h => h)).trans t5 (fun q hq e => by have := HZN.out; omega)
                have TT := Lib.hid t6
                clear hz5 t5 t6 hwe
                refine hK.out _ _ ⟨rangeAt_turn HSX.out TT.out id, rangeAt_turn HSY.out TT.out id⟩ (fun _ => ?_)
                clear hK K
                try simp only [Act.put, List.setIfInBounds_toArray, List.set_cons_zero, List.set_cons_succ, List.getElem_toArray, List.getElem_cons_zero, List.getElem_cons_succ]
                refine wpAnyH_done (by kernel_rfl) ?_ _
                clear hHeld
                have OE := Lib.hid (OX.out.turn TT.out (fun _ _ => id))
                have TE := Lib.hid (T3.out.trans TT.out (fun _ _ => id))
                have HXE := Lib.hid ((TT.out.block X (Array.getElem?_eq_some_iff.1 HXX.out).1 id).trans HXX.out)
                have HYE := Lib.hid ((TT.out.block Y (Array.getElem?_eq_some_iff.1 HYY.out).1 id).trans HYY.out)
                go_wp2_with (with_reducible (show wpList _ _ _ (Oper.mk (some 42) (.load 51 (.tmp 41)) _ _ _ _ :: _) _ _); refine still ?_)
                refine wpList_load_mid rfl 51 (.tmp 41) rfl Z 12 rfl (vl (getN x (f : Int)) (getS x (f : Int))) _ (by have := edO (range_of HZ5.out); rwa [Nat.zero_add] at this) Try.underlying51 rfl vl_info ?_
                go_wp2_with (with_reducible (show wpList _ _ _ (Oper.mk (some 44) (.load 51 (.tmp 43)) _ _ _ _ :: _) _ _); refine still ?_)
                refine wpList_load_mid rfl 51 (.tmp 43) rfl Z 14 rfl (vl (getN y (f : Int)) (getS y (f : Int))) _ (by have := edN (range_of HZ5.out); rwa [Nat.zero_add] at this) Try.underlying51 rfl vl_info ?_
                go_wp2_with (with_reducible (show wpList _ _ _ (Oper.mk (some 45) (_) _ _ _ _ :: _) _ _); refine still ?_)
                refine list_exec rfl _ _ (exec_neq_vl _ _ rfl _ _ _ _ _ rfl rfl) ?_
                rw [show (!decide (getN x (f : Int) = getN y (f : Int) ∧ getS x (f : Int) = getS y (f : Int))) = pf from HPF.out]
                cases pf
                · go_wp2_with fail
                  go_roundw
                  case rel => exact ⟨f + 1, by omega, by go_num, by rw [HSU.out, if_neg (by decide)]; exact OE.out, HXE.out, HYE.out, TE.out⟩
                  case measure => simp [intOf]; omega
                · obtain ⟨vy, wy, hry, hoy, ty, _⟩ := app_one_ed we w.heap.size 28 28 Try.underlying28 _ (C ++ setsUpto x y f) (setD x y (f : Int)) OE.out TE.out.size (by rw [List.length_append]; have := HCL.out; have := setsUpto_len x y f; omega)
                  have HRY := Lib.hid hry
                  have HOY := Lib.hid (show OwE w.heap.size wy vy (C ++ setsUpto x y (f + 1)) by rw [HSU.out, if_pos rfl, ← List.append_assoc]; exact hoy)
                  have HXY := Lib.hid ((ty.block X (Array.getElem?_eq_some_iff.1 HXE.out).1 (blk_neE OE.out HXE.out (by decide))).trans HXE.out)
                  have HYY2 := Lib.hid ((ty.block Y (Array.getElem?_eq_some_iff.1 HYE.out).1 (blk_neE OE.out HYE.out (by decide))).trans HYE.out)
                  have TY := Lib.hid (turn_on_ed OE.out (Nat.le_refl _) TE.out ty)
                  clear hry hoy ty
                  go_wp2_with (with_reducible (show wpList _ _ _ (Oper.mk (some 47) (.load 53 (.tmp 11)) _ _ _ _ :: _) _ _); refine still ?_)
                  refine wpList_load_mid rfl 53 (.tmp 11) rfl Z 0 rfl (setD x y (f : Int)).vals _ (range_of HZ5.out) Try.underlying53 rfl ed_info ?_
                  go_wp2_with (with_reducible (show wpList _ _ _ (Oper.mk (some 48) (.buildSlice 28 _ _) _ _ _ _ :: _) _ _); refine still ?_)
                  refine list_exec rfl _ _ (exec_build_one_ed _ _ (.tmp 47) 28 Try.underlying28 rfl (setD x y (f : Int)) rfl _) ?_
                  go_wp2_with (with_reducible (show wpList _ _ _ (Oper.mk (some 49) (_) _ _ _ _ :: _) _ _); refine still ?_)
                  refine list_exec rfl _ _ (exec_append _ _ (.tmp 46) (.tmp 48) 28 rfl _ _ _ _ _ rfl rfl HRY.out) ?_
                  go_wp2_with fail
                  go_roundw
                  case rel => exact ⟨f + 1, by omega, by go_num, HOY.out, HXY.out, HYY2.out, TY.out⟩
                  case measure => simp [intOf]; omega
              · obtain ⟨Z, hZ⟩ : ∃ Z, wp.heap.size = Z := ⟨_, rfl⟩
                obtain ⟨wz, hwz⟩ : ∃ wz, wp.alloc (.cells ed0.vals.toArray 53) = wz := ⟨_, rfl⟩
                have hxz : ∀ ev op, op.op = .alloc 53 → (execOp ev op).run Try.prog wp = .ok (.value (.pointer (some ⟨Z, 0, none⟩))) wz := fun ev op ho => by rw [← hwz, ← hZ]; exact exec_zero_ed ev op ho _
                have hbz := box_alloc wp 53 ed0.vals
                rw [hwz] at hbz
                have hhz := hbz.heap
                rw [hZ] at hhz
                have HXZ := Lib.hid hxz
                have HHZ := Lib.hid hhz
                have TT2 := Lib.hid (TT1.out.trans hbz.turn (fun _ _ => id))
                have HZN := Lib.hid (show wx.heap.size ≤ Z by rw [← hZ]; exact TT1.out.size)
                have HZB := Lib.hid (show w.heap.size ≤ Z by rw [← hZ]; have := T3.out.size; have := TT1.out.size; omega)
                clear hZ hwz hxz hbz hhz
                refine oper_exec _ _ (HXZ.out _ _ rfl) ?_
                refine hK.out _ _ ⟨rangeAt_turn HSX.out TT2.out id, rangeAt_turn HSY.out TT2.out id⟩ (fun _ => ?_)
                clear hK K
                try simp only [Act.put, List.setIfInBounds_toArray, List.set_cons_zero, List.set_cons_succ, List.getElem_toArray, List.getElem_cons_zero, List.getElem_cons_succ]
                refine wpAnyH_ready (rs := [9]) (by kernel_rfl) (by simp) ?_
                refine AllReadyH.cons rfl (fun K hK => ?_) AllReadyH.nil
                go_simp
                refine (get_any wz y (f : Int) HKY.out).mono ?_
                rintro r9 wq0 ⟨rfl, t9⟩
                have T9 := Lib.hid t9
                have TT3 := Lib.hid (TT2.out.trans t9 (fun _ _ => id))
                clear t9
                refine hK.out _ _ ⟨rangeAt_turn HSX.out TT3.out id, rangeAt_turn HSY.out TT3.out id⟩ (fun _ => ?_)
                clear hK K
                try simp only [Act.put, List.setIfInBounds_toArray, List.set_cons_zero, List.set_cons_succ, List.getElem_toArray, List.getElem_cons_zero, List.getElem_cons_succ]
                refine wpAnyH_take (i := 10) (v := .agg (setD x y (f : Int)).vals.toArray) rfl (by kernel_rfl) (by kernel_rfl) (by kernel_rfl) (fun _ _ _ h => h) (Or.inl ⟨by rfl, ?yq18⟩) (by assumption) ?rq18
                case yq18 => (intro wq hSw; exact exec_edS _ _ _ _ _ _ _ 3 (f : Int) _ _ _ _ (El.at x.id) rfl rfl rfl rfl rfl rfl _)
                case rq18 =>
                try simp only [Act.put, List.setIfInBounds_toArray, List.set_cons_zero, List.set_cons_succ, List.getElem_toArray, List.getElem_cons_zero, List.getElem_cons_succ]
                have HHZ2 := Lib.hid (show wq0.heap[Z]? = some (.cells ed0.vals.toArray 53 (0, 0)) from (T9.out.block Z (Array.getElem?_eq_some_iff.1 HHZ.out).1 id).trans HHZ.out)
                refine wpAnyH_ready (rs := [12]) (by kernel_rfl) (by simp) ?_
                refine AllReadyH.cons rfl (fun K hK => ?_) AllReadyH.nil
                rw [if_pos (by rfl)]
                refine wp_store_mid 53 (.tmp 11) (.tmp 40) rfl Z 0 (setD x y (f : Int)).vals.toArray rfl rfl (by have h16 : wq0.there Z 0 16 := there_row HHZ2.out; exact h16) ed_info (all_oneCell_toArray (setD x y (f : Int)).vals_one) ?_
                obtain ⟨we, hwe⟩ : ∃ we, wq0.setCells Z 0 (setD x y (f : Int)).vals.toArray.toList = we := ⟨_, rfl⟩
                have hz5 : we.heap[Z]? = some (.cells (setD x y (f : Int)).vals.toArray 53 (0, 0)) := by
                  rw [← hwe]
                  have := heap_setCells Z 53 (setD x y (f : Int)).vals 0 wq0 ed0.vals HHZ2.out (by show 0 + 16 ≤ 16; omega)
                  rw [this]
                  rfl
                have t5 : Turn (fun q => q = Z) wq0 we := by rw [← hwe]; exact turn_setCells Z _ 0 wq0
                rw [hwe]
                have HZ5 := Lib.hid hz5
                have t6 : Turn (fun _ => False) wx we := (TT3.out.mono (fun _ _ h => h)).trans t5 (fun q hq e => by have := HZN.out; omega)
                have TT := Lib.hid t6
                clear hz5 t5 t6 hwe
                refine hK.out _ _ ⟨rangeAt_turn HSX.out TT.out id, rangeAt_turn HSY.out TT.out id⟩ (fun _ => ?_)
                clear hK K
                try simp only [Act.put, List.setIfInBounds_toArray, List.set_cons_zero, List.set_cons_succ, List.getElem_toArray, List.getElem_cons_zero, List.getElem_cons_succ]
                refine wpAnyH_done (by kernel_rfl) ?_ _
                clear hHeld
                have OE := Lib.hid (OX.out.turn TT.out (fun _ _ => id))
                have TE := Lib.hid (T3.out.trans TT.out (fun _ _ => id))
                have HXE := Lib.hid ((TT.out.block X (Array.getElem?_eq_some_iff.1 HXX.out).1 id).trans HXX.out)
                have HYE := Lib.hid ((TT.out.block Y (Array.getElem?_eq_some_iff.1 HYY.out).1 id).trans HYY.out)
                go_wp2_with (with_reducible (show wpList _ _ _ (Oper.mk (some 42) (.load 51 (.tmp 41)) _ _ _ _ :: _) _ _); refine still ?_)
                refine wpList_load_mid rfl 51 (.tmp 41) rfl Z 12 rfl (vl (getN x (f : Int)) (getS x (f : Int))) _ (by have := edO (range_of HZ5.out); rwa [Nat.zero_add] at this) Try.underlying51 rfl vl_info ?_
                go_wp2_with (with_reducible (show wpList _ _ _ (Oper.mk (some 44) (.load 51 (.tmp 43)) _ _ _ _ :: _) _ _); refine still ?_)
                refine wpList_load_mid rfl 51 (.tmp 43) rfl Z 14 rfl (vl (getN y (f : Int)) (getS y (f : Int))) _ (by have := edN (range_of HZ5.out); rwa [Nat.zero_add] at this) Try.underlying51 rfl vl_info ?_
                go_wp2_with (with_reducible (show wpList _ _ _ (Oper.mk (some 45) (_) _ _ _ _ :: _) _ _); refine still ?_)
                refine list_exec rfl _ _ (exec_neq_vl _ _ rfl _ _ _ _ _ rfl rfl) ?_
                rw [show (!decide (getN x (f : Int) = getN y (f : Int) ∧ getS x (f : Int) = getS y (f : Int))) = pf from HPF.out]
                cases pf
                · go_wp2_with fail
                  go_roundw
                  case rel => exact ⟨f + 1, by omega, by go_num, by rw [HSU.out, if_neg (by decide)]; exact OE.out, HXE.out, HYE.out, TE.out⟩
                  case measure => simp [intOf]; omega
                · obtain ⟨vy, wy, hry, hoy, ty, _⟩ := app_one_ed we w.heap.size 28 28 Try.underlying28 _ (C ++ setsUpto x y f) (setD x y (f : Int)) OE.out TE.out.size (by rw [List.length_append]; have := HCL.out; have := setsUpto_len x y f; omega)
                  have HRY := Lib.hid hry
                  have HOY := Lib.hid (show OwE w.heap.size wy vy (C ++ setsUpto x y (f + 1)) by rw [HSU.out, if_pos rfl, ← List.append_assoc]; exact hoy)
                  have HXY := Lib.hid ((ty.block X (Array.getElem?_eq_some_iff.1 HXE.out).1 (blk_neE OE.out HXE.out (by decide))).trans HXE.out)
                  have HYY2 := Lib.hid ((ty.block Y (Array.getElem?_eq_some_iff.1 HYE.out).1 (blk_neE OE.out HYE.out (by decide))).trans HYE.out)
                  have TY := Lib.hid (turn_on_ed OE.out (Nat.le_refl _) TE.out ty)
                  clear hry hoy ty
                  go_wp2_with (with_reducible (show wpList _ _ _ (Oper.mk (some 47) (.load 53 (.tmp 11)) _ _ _ _ :: _) _ _); refine still ?_)
                  refine wpList_load_mid rfl 53 (.tmp 11) rfl Z 0 rfl (setD x y (f : Int)).vals _ (range_of HZ5.out) Try.underlying53 rfl ed_info ?_
                  go_wp2_with (with_reducible (show wpList _ _ _ (Oper.mk (some 48) (.buildSlice 28 _ _) _ _ _ _ :: _) _ _); refine still ?_)
                  refine list_exec rfl _ _ (exec_build_one_ed _ _ (.tmp 47) 28 Try.underlying28 rfl (setD x y (f : Int)) rfl _) ?_
                  go_wp2_with (with_reducible (show wpList _ _ _ (Oper.mk (some 49) (_) _ _ _ _ :: _) _ _); refine still ?_)
                  refine list_exec rfl _ _ (exec_append _ _ (.tmp 46) (.tmp 48) 28 rfl _ _ _ _ _ rfl rfl HRY.out) ?_
                  go_wp2_with fail
                  go_roundw
                  case rel => exact ⟨f + 1, by omega, by go_num, HOY.out, HXY.out, HYY2.out, TY.out⟩
                  case measure => simp [intOf]; omega
            · obtain ⟨Z, hZ⟩ : ∃ Z, wx.heap.size = Z := ⟨_, rfl⟩
              obtain ⟨wz, hwz⟩ : ∃ wz, wx.alloc (.cells ed0.vals.toArray 53) = wz := ⟨_, rfl⟩
              have hxz : ∀ ev op, op.op = .alloc 53 → (execOp ev op).run Try.prog wx = .ok (.value (.pointer (some ⟨Z, 0, none⟩))) wz := fun ev op ho => by rw [← hwz, ← hZ]; exact exec_zero_ed ev op ho _
              have hbz := box_alloc wx 53 ed0.vals
              rw [hwz] at hbz
              have hhz := hbz.heap
              rw [hZ] at hhz
              have HXZ := Lib.hid hxz
              have HHZ := Lib.hid hhz
              have TT1 := Lib.hid (TT0.out.trans hbz.turn (fun _ _ => id))
              have HZN := Lib.hid (show wx.heap.size ≤ Z by rw [← hZ]; exact TT0.out.size)
              have HZB := Lib.hid (show w.heap.size ≤ Z by rw [← hZ]; have := T3.out.size; have := TT0.out.size; omega)
              clear hZ hwz hxz hbz hhz
              refine oper_exec _ _ (HXZ.out _ _ rfl) ?_
              refine hK.out _ _ ⟨rangeAt_turn HSX.out TT1.out id, rangeAt_turn HSY.out TT1.out id⟩ (fun _ => ?_)
              clear hK K
              try simp only [Act.put, List.setIfInBounds_toArray, List.set_cons_zero, List.set_cons_succ, List.getElem_toArray, List.getElem_cons_zero, List.getElem_cons_succ]
              refine wpAnyH_ready (rs := [6]) (by kernel_rfl) (by simp) ?_
              refine AllReadyH.cons rfl (fun K hK => ?_) AllReadyH.nil
              go_simp
              refine (get_any wz x (f : Int) HKX.out).mono ?_
              rintro r6 wp ⟨rfl, t6⟩
              have T6 := Lib.hid t6
              have TT2 := Lib.hid (TT1.out.trans t6 (fun _ _ => id))
              clear t6
              refine hK.out _ _ ⟨rangeAt_turn HSX.out TT2.out id, rangeAt_turn HSY.out TT2.out id⟩ (fun _ => ?_)
              clear hK K
              try simp only [Act.put, List.setIfInBounds_toArray, List.set_cons_zero, List.set_cons_succ, List.getElem_toArray, List.getElem_cons_zero, List.getElem_cons_succ]
              refine wpAnyH_ready (rs := [9]) (by kernel_rfl) (by simp) ?_
              refine AllReadyH.cons rfl (fun K hK => ?_) AllReadyH.nil
              go_simp
              refine (get_any wp y (f : Int) HKY.out).mono ?_
              rintro r9 wq0 ⟨rfl, t9⟩
              have T9 := Lib.hid t9
              have TT3 := Lib.hid (TT2.out.trans t9 (fun _ _ => id))
              clear t9
              refine hK.out _ _ ⟨rangeAt_turn HSX.out TT3.out id, rangeAt_turn HSY.out TT3.out id⟩ (fun _ => ?_)
              clear hK K
              try simp only [Act.put, List.setIfInBounds_toArray, List.set_cons_zero, List.set_cons_succ, List.getElem_toArray, List.getElem_cons_zero, List.getElem_cons_succ]
              refine wpAnyH_take (i := 10) (v := .agg (setD x y (f : Int)).vals.toArray) rfl (by kernel_rfl) (by kernel_rfl) (by kernel_rfl) (fun _ _ _ h => h) (Or.inl ⟨by rfl, ?yq16⟩) (by assumption) ?rq16
              case yq16 => (intro wq hSw; exact exec_edS _ _ _ _ _ _ _ 3 (f : Int) _ _ _ _ (El.at x.id) rfl rfl rfl rfl rfl rfl _)
              case rq16 =>
              try simp only [Act.put, List.setIfInBounds_toArray, List.set_cons_zero, List.set_cons_succ, List.getElem_toArray, List.getElem_cons_zero, List.getElem_cons_succ]
              have HHZ2 := Lib.hid (show wq0.heap[Z]? = some (.cells ed0.vals.toArray 53 (0, 0)) from ((T6.out.trans T9.out (fun _ _ => id)).block Z (Array.getElem?_eq_some_iff.1 HHZ.out).1 id).trans HHZ.out)
              refine wpAnyH_ready (rs := [12]) (by kernel_rfl) (by simp) ?_
              refine AllReadyH.cons rfl (fun K hK => ?_) AllReadyH.nil
              rw [if_pos (by rfl)]
              refine wp_store_mid 53 (.tmp 11) (.tmp 40) rfl Z 0 (setD x y (f : Int)).vals.toArray rfl rfl (by have h16 : wq0.there Z 0 16 := there_row HHZ2.out; exact h16) ed_info (all_oneCell_toArray (setD x y (f : Int)).vals_one) ?_
              obtain ⟨we, hwe⟩ : ∃ we, wq0.setCells Z 0 (setD x y (f : Int)).vals.toArray.toList = we := ⟨_, rfl⟩
              have hz5 : we.heap[Z]? = some (.cells (setD x y (f : Int)).vals.toArray 53 (0, 0)) := by
                rw [← hwe]
                have := heap_setCells Z 53 (setD x y (f : Int)).vals 0 wq0 ed0.vals HHZ2.out (by show 0 + 16 ≤ 16; omega)
                rw [this]
                rfl
              have t5 : Turn (fun q => q = Z) wq0 we := by rw [← hwe]; exact turn_setCells Z _ 0 wq0
              rw [hwe]
              have HZ5 := Lib.hid hz5
              have t6 : Turn (fun _ => False) wx we := (TT3.out.mono (fun _ _ h => h)).trans t5 (fun q hq e => by have := HZN.out; omega)
              have TT := Lib.hid t6
              clear hz5 t5 t6 hwe
              refine hK.out _ _ ⟨rangeAt_turn HSX.out TT.out id, rangeAt_turn HSY.out TT.out id⟩ (fun _ => ?_)
              clear hK K
              try simp only [Act.put, List.setIfInBounds_toArray, List.set_cons_zero, List.set_cons_succ, List.getElem_toArray, List.getElem_cons_zero, List.getElem_cons_succ]
              refine wpAnyH_done (by kernel_rfl) ?_ _
              clear hHeld
              have OE := Lib.hid (OX.out.turn TT.out (fun _ _ => id))
              have TE := Lib.hid (T3.out.trans TT.out (fun _ _ => id))
              have HXE := Lib.hid ((TT.out.block X (Array.getElem?_eq_some_iff.1 HXX.out).1 id).trans HXX.out)
              have HYE := Lib.hid ((TT.out.block Y (Array.getElem?_eq_some_iff.1 HYY.out).1 id).trans HYY.out)
              go_wp2_with (with_reducible (show wpList _ _ _ (Oper.mk (some 42) (.load 51 (.tmp 41)) _ _ _ _ :: _) _ _); refine still ?_)
              refine wpList_load_mid rfl 51 (.tmp 41) rfl Z 12 rfl (vl (getN x (f : Int)) (getS x (f : Int))) _ (by have := edO (range_of HZ5.out); rwa [Nat.zero_add] at this) Try.underlying51 rfl vl_info ?_
              go_wp2_with (with_reducible (show wpList _ _ _ (Oper.mk (some 44) (.load 51 (.tmp 43)) _ _ _ _ :: _) _ _); refine still ?_)
              refine wpList_load_mid rfl 51 (.tmp 43) rfl Z 14 rfl (vl (getN y (f : Int)) (getS y (f : Int))) _ (by have := edN (range_of HZ5.out); rwa [Nat.zero_add] at this) Try.underlying51 rfl vl_info ?_
              go_wp2_with (with_reducible (show wpList _ _ _ (Oper.mk (some 45) (_) _ _ _ _ :: _) _ _); refine still ?_)
              refine list_exec rfl _ _ (exec_neq_vl _ _ rfl _ _ _ _ _ rfl rfl) ?_
              rw [show (!decide (getN x (f : Int) = getN y (f : Int) ∧ getS x (f : Int) = getS y (f : Int))) = pf from HPF.out]
              cases pf
              · go_wp2_with fail
                go_roundw
                case rel => exact ⟨f + 1, by omega, by go_num, by rw [HSU.out, if_neg (by decide)]; exact OE.out, HXE.out, HYE.out, TE.out⟩
                case measure => simp [intOf]; omega
              · obtain ⟨vy, wy, hry, hoy, ty, _⟩ := app_one_ed we w.heap.size 28 28 Try.underlying28 _ (C ++ setsUpto x y f) (setD x y (f : Int)) OE.out TE.out.size (by rw [List.length_append]; have := HCL.out; have := setsUpto_len x y f; omega)
                have HRY := Lib.hid hry
                have HOY := Lib.hid (show OwE w.heap.size wy vy (C ++ setsUpto x y (f + 1)) by rw [HSU.out, if_pos rfl, ← List.append_assoc]; exact hoy)
                have HXY := Lib.hid ((ty.block X (Array.getElem?_eq_some_iff.1 HXE.out).1 (blk_neE OE.out HXE.out (by decide))).trans HXE.out)
                have HYY2 := Lib.hid ((ty.block Y (Array.getElem?_eq_some_iff.1 HYE.out).1 (blk_neE OE.out HYE.out (by decide))).trans HYE.out)
                have TY := Lib.hid (turn_on_ed OE.out (Nat.le_refl _) TE.out ty)
                clear hry hoy ty
                go_wp2_with (with_reducible (show wpList _ _ _ (Oper.mk (some 47) (.load 53 (.tmp 11)) _ _ _ _ :: _) _ _); refine still ?_)
                refine wpList_load_mid rfl 53 (.tmp 11) rfl Z 0 rfl (setD x y (f : Int)).vals _ (range_of HZ5.out) Try.underlying53 rfl ed_info ?_
                go_wp2_with (with_reducible (show wpList _ _ _ (Oper.mk (some 48) (.buildSlice 28 _ _) _ _ _ _ :: _) _ _); refine still ?_)
                refine list_exec rfl _ _ (exec_build_one_ed _ _ (.tmp 47) 28 Try.underlying28 rfl (setD x y (f : Int)) rfl _) ?_
                go_wp2_with (with_reducible (show wpList _ _ _ (Oper.mk (some 49) (_) _ _ _ _ :: _) _ _); refine still ?_)
                refine list_exec rfl _ _ (exec_append _ _ (.tmp 46) (.tmp 48) 28 rfl _ _ _ _ _ rfl rfl HRY.out) ?_
                go_wp2_with fail
                go_roundw
                case rel => exact ⟨f + 1, by omega, by go_num, HOY.out, HXY.out, HYY2.out, TY.out⟩
                case measure => simp [intOf]; omega
          · have hfe : f = 9 := by omega
            subst hfe
            go_wp2_with fail
            go_roundw
            case rel => exact ⟨i + 1, by omega, by go_num, by rw [HSS.out, HE.out]; exact HOW3.out, HT3.out⟩
            case measure => simp [intOf]; omega
    · have hie : i = n := by omega
      subst hie
      go_wp2_with fail
      go_ret
      refine ⟨_, rfl, ?_, HT.out⟩
      have := HOW.out
      rw [List.take_of_length_le (by rw [HN.out]; omega)] at this
      exact this

end Go.Proofs.Ytkciaafkhpjnaaa
