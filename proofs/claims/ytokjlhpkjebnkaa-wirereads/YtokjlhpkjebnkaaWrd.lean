/- Own contracts: any bytes: none, or a chart of just these. No statement is proved here. -/
import Derived.Test.YtokjlhpkjebnkaaWra
import Derived.Laws.BitsAllLaws
namespace Go.Proofs.Ytokjlhpkjebnkaa
set_option maxRecDepth 100000
open Go.RowKit
set_option linter.unusedVariables false
set_option linter.unusedSimpArgs false


theorem src_keep {w w' : World} {v : Value} {xs : List Int} {S : Nat → Prop} (h : Src w v xs) (t : Turn S w w') (hn : ∀ q, v.ownBlock = some q → 0 < xs.length → ¬ S q) : Src w' v xs := by
  rcases h with (h | ⟨g, o, c, rfl, hc, hcell⟩) | h
  · exact .inl (.inl h)
  · refine .inl (.inr ⟨g, o, c, rfl, hc, fun i hi => ?_⟩)
    have h1 := hcell i hi
    exact (t.cell (p := ⟨g, o + i, none⟩) (World.block_lt_of_cell? w _ h1) (hn g rfl (by omega))).trans h1
  · exact .inr h

set_option maxHeartbeats 16000000 in
theorem wreads_law (w : World) (v0 v1 : Value) (P : List Int) (L : List A4) (at_ turn cut : Int) (h0 : Src w v0 P) (hp8 : Bytes8 P) (hpl : P.length ≤ maxLen) (hold : ∀ q, v0.ownBlock = some q → 0 < P.length → q < w.heap.size) (h1 : ActsV w v1 L) (hat : 0 ≤ at_ ∧ at_ < 65536) (htn : 0 ≤ turn ∧ turn < 256) (hcut : 0 ≤ cut ∧ cut < 65536) : Calls Try.prog 8 #[v0, v1, .int .u16 at_, .int .u8 turn, .int .u16 cut] w fun r w' => r = .returned (.bool true) ∧ Turn (fun _ => False) w w' := by
  obtain ⟨c0, k0, rfl⟩ : ∃ a c, v0 = .slice a P.length c := by
    rcases h0 with (⟨rfl, rfl⟩ | ⟨g, o, c, rfl, _⟩) | ⟨x, c, rfl, rfl⟩
    · exact ⟨_, _, rfl⟩
    · exact ⟨_, _, rfl⟩
    · exact ⟨_, _, rfl⟩
  obtain ⟨c1, k1, rfl⟩ := h1.form
  obtain ⟨n, hn⟩ : ∃ n, P.length = n := ⟨_, rfl⟩
  obtain ⟨m, hm⟩ : ∃ m, L.length = m := ⟨_, rfl⟩
  rw [hn] at h0
  rw [hm] at h1
  rw [hn, hm]
  have HN := Lib.hid hn
  have HMM := Lib.hid hm
  have HV0 := Lib.hid h0
  have HV1 := Lib.hid h1
  have HP8 := Lib.hid hp8
  have HOLD := Lib.hid hold
  clear hn hm h0 h1 hp8 hpl hold
  by_cases hbig : 200 < n ∨ 24 < m
  · have dd : decide ((200 : Int) < (n : Int)) = true ∨ (decide ((200 : Int) < (n : Int)) = false ∧ decide ((24 : Int) < (m : Int)) = true) := by
      by_cases h : 200 < n
      · exact .inl (decide_eq_true (by omega))
      · exact .inr ⟨decide_eq_false (by omega), decide_eq_true (by omega)⟩
    rcases dd with d1 | ⟨d1, d2⟩
    all_goals
      go_enter Try.func8, Try.ntmps8
      go_wp2_with fail
      refine (awake10 w).mono ?_
      rintro r w2 ⟨rfl, t2⟩
      have T2 := Lib.hid t2
      clear t2
      go_wp2_with fail
      refine (awake10 w2).mono ?_
      rintro r w3 ⟨rfl, t3⟩
      have T3 := Lib.hid (T2.out.trans t3 (fun _ _ => id))
      clear t3
      go_wp2_with fail
      go_ret
      exact ⟨by first | rfl | simp, T3.out⟩
  have d1 : decide ((200 : Int) < (n : Int)) = false := decide_eq_false (by omega)
  have d2 : decide ((24 : Int) < (m : Int)) = false := decide_eq_false (by omega)
  have HML0 := Lib.hid (show n ≤ 200 ∧ m ≤ 24 from by omega)
  clear hbig
  go_enter Try.func8, Try.ntmps8
  go_wp2_with fail
  refine (awake10 w).mono ?_
  rintro r w2 ⟨rfl, t2⟩
  have T2 := Lib.hid t2
  have HV0 := Lib.hid (HV0.out.turn t2 (fun _ _ => id))
  clear t2
  go_wp2_with fail
  refine (make_any w2 _ L (HV1.out.turn T2.out) (by rw [HMM.out]; have := HML0.out; omega)).mono ?_
  rintro r w3 ⟨cv, rfl, hrv, t3⟩
  have T3 := Lib.hid (T2.out.trans t3 (fun _ _ => id))
  have HV0 := Lib.hid (HV0.out.turn t3 (fun _ _ => id))
  have HG := Lib.hid (good_makeE L)
  obtain ⟨X, hC⟩ : ∃ C, makeE L = C := ⟨_, rfl⟩
  rw [hC] at hrv HG
  have RVX := Lib.hid hrv
  clear t3 hC hrv
  go_wp2_with fail
  refine (rbytes_any w3 _ X RVX.out HG.out.right HG.out.kind).mono ?_
  rintro r w4 ⟨qv, rfl, hown, t4⟩
  have T4 := Lib.hid (T3.out.trans t4 (fun _ _ => id))
  have HV0 := Lib.hid (HV0.out.turn t4 (fun _ _ => id))
  obtain ⟨BS, hBS⟩ : ∃ BS, bytesE X = BS := ⟨_, rfl⟩
  have HB8 := Lib.hid (show Bytes8 BS from hBS ▸ bytes8_chart X)
  have hql : 0 < BS.length ∧ BS.length ≤ 7000 := by
    rw [← hBS]
    refine ⟨?_, bytesE_len HG.out.right HG.out.kind⟩
    simp only [bytesE, List.length_append, List.length_cons]; omega
  rw [hBS] at hown
  obtain ⟨Q, hQ⟩ : ∃ Q, BS.length = Q := ⟨_, rfl⟩
  obtain ⟨g, gc, rfl, hgc, hgl, hgw, hcell, hfz⟩ := own_first hown hql.1
  rw [hQ] at hcell hfz hql hgc
  rw [hQ]
  have HQ := Lib.hid hQ
  have HQL := Lib.hid hql
  have HCL := Lib.hid hcell
  have HFZ := Lib.hid hfz
  have HGC := Lib.hid (show Q ≤ gc ∧ g < w4.heap.size ∧ w3.heap.size ≤ g from ⟨hgc, hgl, hgw⟩)
  clear t4 hBS hown hcell hfz hQ hgl hgw
  obtain ⟨kk, hkk, hkq⟩ : ∃ kk : Nat, cut.tmod ((Q : Int) + 1) = (kk : Int) ∧ kk ≤ Q := by
    rw [Int.tmod_eq_emod_of_nonneg hcut.1]
    have h1 := Int.emod_nonneg cut (show (Q : Int) + 1 ≠ 0 by omega)
    have h2 := Int.emod_lt_of_pos cut (show (0 : Int) < (Q : Int) + 1 by omega)
    exact ⟨(cut % ((Q : Int) + 1)).toNat, by omega, by omega⟩
  obtain ⟨jj, hjj, hjq⟩ : ∃ jj : Nat, at_.tmod (Q : Int) = (jj : Int) ∧ jj < Q := by
    rw [Int.tmod_eq_emod_of_nonneg hat.1]
    have h1 := Int.emod_nonneg at_ (show (Q : Int) ≠ 0 by omega)
    have h2 := Int.emod_lt_of_pos at_ (show (0 : Int) < (Q : Int) by omega)
    exact ⟨(at_ % (Q : Int)).toNat, by omega, by omega⟩
  have HJ := Lib.hid hjj
  have HJQ := Lib.hid hjq
  have HKQ := Lib.hid hkq
  have hcd : (Q : Int) + 1 ≠ 0 := by omega
  have hcd2 : ((Q : Int) + 1 == 0) = false := by simp; omega
  have hkg : kk ≤ gc := by omega
  have hsR := reads_take HCL.out HQ.out hgc kk hkq
  obtain ⟨rv, w5, hra, hro, ta, _⟩ := app_bytes w4 w4.heap.size (.slice none 0 0) _ [] (BS.take kk) (World.ownsRow_nil _ _ _ _) hsR (Nat.le_refl _) (by have := HQL.out; simp; omega)
  rw [List.nil_append] at hro
  have HRA := Lib.hid hra
  have HRO := Lib.hid hro
  have TA := Lib.hid (show Turn (fun _ => False) w4 w5 from ta.mono (fun i _ h => by cases h))
  obtain ⟨ra, rc, hrf⟩ := own_slice hro
  subst hrf
  obtain ⟨rl, hrl⟩ : ∃ rl, (BS.take kk).length = rl := ⟨_, rfl⟩
  rw [hrl] at HRA
  have HRL2 := Lib.hid hrl
  clear hrl
  have HKL := Lib.hid (show (BS.take kk).length = kk from by rw [List.length_take, HQ.out]; omega)
  clear hra hro ta hsR hjj hjq hgc
  go_wp2_with (with_reducible (show wpList _ _ _ (Oper.mk (some 42) _ _ _ _ _ :: _) _ _); refine still ?_)
  refine list_exec rfl _ _ (exec_append _ _ (.const (.slice none 0 0)) (.tmp 41) 49 rfl _ _ _ _ _ rfl rfl HRA.out) ?_
  clear hkk hcd hcd2 hkg
  obtain ⟨sv, w6, hsa, hso, tb, _⟩ := app_bytes w5 w5.heap.size (.slice none 0 0) (.slice (some ⟨g, 0, none⟩) Q gc) [] BS (World.ownsRow_nil _ _ _ _) (by have h := reads_take (c := gc) (fun i hi => (TA.out.cell (p := ⟨g, i, none⟩) HGC.out.2.1 id).trans (HCL.out i hi)) HQ.out HGC.out.1 Q (Nat.le_refl _); rwa [List.take_of_length_le (by have := HQ.out; omega)] at h) (Nat.le_refl _) (by have := HQL.out; have := HQ.out; simp; omega)
  rw [List.nil_append] at hso
  have HSA := Lib.hid hsa
  have TB := Lib.hid (show Turn (fun _ => False) w5 w6 from tb.mono (fun i _ h => by cases h))
  have hbx := box_alloc w6 5 [.int .u8 turn]
  obtain ⟨w7, hw7⟩ : ∃ w7, w6.alloc (.cells #[.int .u8 turn] 5) = w7 := ⟨_, rfl⟩
  obtain ⟨G6, hG6⟩ : ∃ G6, w6.heap.size = G6 := ⟨_, rfl⟩
  have hone : Src w7 (.slice (some ⟨G6, 0, none⟩) 1 1) [turn] := by
    refine .inl (.inr ⟨G6, 0, 1, rfl, Nat.le_refl _, fun i hi => ?_⟩)
    obtain rfl : i = 0 := by simpa using hi
    have := hbx.cell 0 (.int .u8 turn) rfl
    rw [hG6] at this
    rw [← hw7]; exact this
  have tc : Turn (fun _ => False) w6 w7 := by rw [← hw7]; exact hbx.turn
  obtain ⟨tv, w8, hta, hto, td, htf⟩ := app_bytes w7 w5.heap.size sv (.slice (some ⟨G6, 0, none⟩) 1 1) BS [turn] (tc.owns hso (fun _ _ => id)) hone (by have := tb.size; have := tc.size; omega) (by have := HQL.out; have := HQ.out; simp; omega)
  have HTA := Lib.hid hta
  have HTO := Lib.hid hto
  have TD := Lib.hid (show Turn (fun _ => False) w5 w8 from turn_on5 (tc.owns hso (fun _ _ => id)) (Nat.le_refl _) (TB.out.trans tc (fun _ _ => id)) td)
  obtain ⟨ta, tcc, htv⟩ := own_slice hto
  subst htv
  obtain ⟨tl, htl⟩ : ∃ tl, (BS ++ [turn]).length = tl := ⟨_, rfl⟩
  rw [htl] at HTA
  have HTL2 := Lib.hid htl
  clear htl
  clear hsa hso tb tc hbx hta hto td htf hone
  go_wp2_with (with_reducible (show wpList _ _ _ (Oper.mk (some 44) _ _ _ _ _ :: _) _ _); refine still ?_)
  refine list_exec rfl _ _ (exec_append _ _ (.const (.slice none 0 0)) (.tmp 43) 49 rfl _ _ _ _ _ rfl rfl HSA.out) ?_
  go_wp2_with (with_reducible (show wpList _ _ _ (Oper.mk (some 47) _ _ _ _ _ :: _) _ _); refine still ?_)
  refine list_exec rfl _ _ (exec_append _ _ (.tmp 44) (.tmp 46) 49 rfl _ _ _ _ _ rfl rfl HTA.out) ?_
  clear hw7 hG6
  have hj := HJ.out
  obtain ⟨old, hold⟩ : ∃ old, BS.getD jj 0 = old := ⟨_, rfl⟩
  have hob : 0 ≤ old ∧ old ≤ 255 := by
    rw [← hold]
    have hm : BS.getD jj 0 ∈ BS := by
      have hlt : jj < BS.length := by have := HJQ.out; have := HQ.out; omega
      simp [List.getD, hlt]
    exact HB8.out _ hm
  obtain ⟨y, hy, hyb⟩ : ∃ y : Int, bits .xor .u8 old turn = y ∧ 0 ≤ y ∧ y ≤ 255 := by
    rw [u8_xor old turn (by omega) (by omega) (by omega) (by omega)]
    have : old.toNat ^^^ turn.toNat < 2 ^ 8 := Nat.xor_lt_two_pow (by omega) (by omega)
    exact ⟨_, rfl, by omega, by omega⟩
  have T48 := Lib.hid (TA.out.trans TD.out (fun _ _ => id))
  have cq : w8.cell? ⟨g, jj, none⟩ = some (.int .u8 old) := by rw [← hold]; exact (T48.out.cell (p := ⟨g, jj, none⟩) HGC.out.2.1 id).trans (HCL.out jj HJQ.out)
  have fq : w8.frozen? ⟨g, jj, none⟩ = false := (T48.out.frozen (p := ⟨g, jj, none⟩) HGC.out.2.1 id).trans (HFZ.out jj HJQ.out)
  have hpb := put_byte (fun i hi => (T48.out.cell (p := ⟨g, i, none⟩) HGC.out.2.1 id).trans (HCL.out i hi)) HQ.out jj HJQ.out y
  obtain ⟨w9, hw9⟩ : ∃ w9, w8.setCell ⟨g, jj, none⟩ (.int .u8 y) = w9 := ⟨_, rfl⟩
  have te : Turn (fun q => q = g) w8 w9 := by rw [← hw9]; exact (Turn.refl (fun q => q = g) w8).setCell (p := ⟨g, jj, none⟩) (fun _ => rfl) _
  rw [hw9] at hpb
  have gj : (0 : Int) ≤ (jj : Int) ∧ (jj : Int) < (Q : Int) := by have := HJQ.out; omega
  have hq0 : ((Q : Int) == 0) = false := by have := HQL.out; simp; omega
  have HPB := Lib.hid (show Src w9 (.slice (some ⟨g, 0, none⟩) Q gc) (BS.set jj y) from by
    have h := reads_take (c := gc) hpb (by rw [List.length_set]; exact HQ.out) HGC.out.1 Q (Nat.le_refl _)
    rwa [List.take_of_length_le (by rw [List.length_set]; have := HQ.out; omega)] at h)
  have HYB := Lib.hid hyb
  have T9 := Lib.hid (show Turn (fun _ => False) w w9 from (T4.out.trans T48.out (fun _ _ => id)).trans te (fun q hq e => by have := HGC.out.2.2; have := T3.out.size; omega))
  have HV9 := Lib.hid (show Src w9 (.slice c0 n k0) P from src_keep (HV0.out.turn T48.out (fun _ _ => id)) te (fun q hq hpos e => by have h1 := HOLD.out q (by rw [HN.out]; exact hq) hpos; have := HGC.out.2.2; have := T3.out.size; omega))
  have HR9 := Lib.hid (show Src w9 (.slice ra rl rc) (BS.take kk) from by rw [← HRL2.out]; exact .inl (Reads.of_owns (te.owns (TD.out.owns HRO.out (fun _ _ => id)) (fun q hq e => by have h1 := (HRO.out.lt q hq).1; have := HGC.out.2.1; omega))))
  have HT9 := Lib.hid (show Src w9 (.slice ta tl tcc) (BS ++ [turn]) from by rw [← HTL2.out]; exact .inl (Reads.of_owns (te.owns HTO.out (fun q hq e => by have h1 := (HTO.out.lt q hq).1; have := HGC.out.2.1; have := TA.out.size; omega))))
  clear hold hob hyb hpb te
  go_wp2_with (with_reducible (show wpList _ _ _ (Oper.mk (some 64) _ _ _ _ _ :: _) _ _); refine still ?_)
  refine list_exec rfl _ _ (exec_mark _ _ (.tmp 63) rfl w9 rfl) ?_
  have hms := mark_src w9
  have tm : Turn (fun _ => False) w9 (w9.alloc (.cells #[.int .u8 67, .int .u8 49] 5 (2, 3))) := (Turn.refl _ w9).alloc _
  obtain ⟨wm, hwm⟩ : ∃ wm, w9.alloc (.cells #[.int .u8 67, .int .u8 49] 5 (2, 3)) = wm := ⟨_, rfl⟩
  rw [hwm] at hms tm
  rw [hwm]
  obtain ⟨G0, hG0⟩ : ∃ G0, w9.heap.size = G0 := ⟨_, rfl⟩
  rw [hG0] at hms
  rw [hG0]
  obtain ⟨mv, wn, hma, hmo, tn, ma, mc, hmf⟩ := app_mark0 wm wm.heap.size _ (.slice c0 n k0) P hms ⟨_, rfl⟩ (HV9.out.turn tm (fun _ _ => id)) (Nat.le_refl _) (by have := HN.out; have := HML0.out; omega)
  subst hmf
  obtain ⟨ml, hml⟩ : ∃ ml, ([67, 49] ++ P).length = ml := ⟨_, rfl⟩
  rw [hml] at hma hmo
  have HML2 := Lib.hid hml
  clear hml
  have HMA := Lib.hid hma
  have T9N := Lib.hid (tm.trans tn (fun _ _ => id))
  have HMO := Lib.hid hmo
  clear hms tm hwm hG0 hma hmo tn hj hy cq fq hw9 gj hq0
  go_wp2_with (with_reducible (show wpList _ _ _ (Oper.mk (some 66) _ _ _ _ _ :: _) _ _); refine still ?_)
  refine list_exec rfl _ _ (exec_append _ _ (.tmp 64) (.tmp 65) 49 rfl _ _ _ _ _ rfl rfl HMA.out) ?_
  go_wp2_with (with_reducible (show wpList _ _ _ (Oper.mk (some 67) _ _ _ _ _ :: _) _ _); refine still ?_)
  refine list_exec rfl _ _ (exec_build5s _ _ (.tmp 59) (.tmp 60) (.tmp 61) (.tmp 62) (.tmp 66) rfl c0 (some ⟨g, 0, none⟩) ra ta ma n Q rl tl ml k0 gc rc tcc mc rfl rfl rfl rfl rfl _) ?_
  have hbf := box_alloc wn 49 [Value.slice c0 n k0, .slice (some ⟨g, 0, none⟩) Q gc, .slice ra rl rc, .slice ta tl tcc, .slice ma ml mc]
  obtain ⟨R, hR⟩ : ∃ R, wn.heap.size = R := ⟨_, rfl⟩
  obtain ⟨wo, hwo⟩ : ∃ wo, wn.alloc (.cells [Value.slice c0 n k0, .slice (some ⟨g, 0, none⟩) Q gc, .slice ra rl rc, .slice ta tl tcc, .slice ma ml mc].toArray 49) = wo := ⟨_, rfl⟩
  rw [hwo] at hbf
  rw [hwo, hR]
  have tno := hbf.turn
  have T9O := Lib.hid (T9N.out.trans tno (fun _ _ => id))
  have TO := Lib.hid (T9.out.trans T9O.out (fun _ _ => id))
  obtain ⟨V, hV⟩ : ∃ V : Nat → Value, V = fun i => [Value.slice c0 n k0, .slice (some ⟨g, 0, none⟩) Q gc, .slice ra rl rc, .slice ta tl tcc, .slice ma ml mc].getD i undef := ⟨_, rfl⟩
  obtain ⟨XX, hXX⟩ : ∃ XX : Nat → List Int, XX = fun i => [P, BS.set jj y, BS.take kk, BS ++ [turn], [67, 49] ++ P].getD i [] := ⟨_, rfl⟩
  have HROW := Lib.hid (show ∀ i, i < 5 → wo.cell? ⟨R, i, none⟩ = some (V i) from fun i hi => by
    rw [hV, ← hR]
    refine hbf.cell i _ ?_
    rcases (by omega : i = 0 ∨ i = 1 ∨ i = 2 ∨ i = 3 ∨ i = 4) with rfl | rfl | rfl | rfl | rfl <;> rfl)
  have HRL := Lib.hid (show R < wo.heap.size from by have := hbf.size; omega)
  have HFORM := Lib.hid (show ∀ i, i < 5 → ∃ a c, V i = .slice a (XX i).length c from fun i hi => by
    rw [hV, hXX]
    rcases (by omega : i = 0 ∨ i = 1 ∨ i = 2 ∨ i = 3 ∨ i = 4) with rfl | rfl | rfl | rfl | rfl
    · exact ⟨c0, k0, by rw [← HN.out]; rfl⟩
    · exact ⟨some ⟨g, 0, none⟩, gc, by show Value.slice _ Q _ = Value.slice _ (BS.set jj y).length _; rw [List.length_set, HQ.out]⟩
    · exact ⟨ra, rc, by show Value.slice _ rl _ = Value.slice _ (BS.take kk).length _; rw [HRL2.out]⟩
    · exact ⟨ta, tcc, by show Value.slice _ tl _ = Value.slice _ (BS ++ [turn]).length _; rw [HTL2.out]⟩
    · exact ⟨ma, mc, by show Value.slice _ ml _ = Value.slice _ ([67, 49] ++ P).length _; rw [HML2.out]⟩)
  have HFIVE := Lib.hid (show FiveS wo V XX from by
    have hn := HN.out
    have hq := HQ.out
    have hm := HML0.out
    have hql := HQL.out
    refine ⟨fun i hi => ?_, fun i hi => ?_, fun i hi => ?_⟩ <;> rw [hXX] <;> (try rw [hV]) <;> rcases (by omega : i = 0 ∨ i = 1 ∨ i = 2 ∨ i = 3 ∨ i = 4) with rfl | rfl | rfl | rfl | rfl
    · exact HV9.out.turn T9O.out (fun _ _ => id)
    · exact HPB.out.turn T9O.out (fun _ _ => id)
    · exact HR9.out.turn T9O.out (fun _ _ => id)
    · exact HT9.out.turn T9O.out (fun _ _ => id)
    · exact HMO.out.turn tno (fun _ _ => id)
    · exact HP8.out
    · exact bytes8_set HB8.out jj HYB.out
    · exact bytes8_take HB8.out kk
    · exact bytes8_append HB8.out (fun x hx => by rw [List.mem_singleton.1 hx]; omega)
    · exact bytes8_append (fun x hx => by simp only [List.mem_cons, List.not_mem_nil, or_false] at hx; omega) HP8.out
    · show P.length ≤ 20000; omega
    · show (BS.set jj y).length ≤ 20000; rw [List.length_set]; omega
    · show (BS.take kk).length ≤ 20000; have := List.length_take_le kk BS; simp; omega
    · show (BS ++ [turn]).length ≤ 20000; simp; omega
    · show ([67, 49] ++ P).length ≤ 20000; simp; omega)
  clear hbf hR hwo tno hV hXX
  go_wp2_with fail
  go_loopw [69] (fun iv wr => ∃ i : Nat, i ≤ 5 ∧ iv = .int .i64 (i : Int) ∧ Turn (fun _ => False) wo wr) (fun iv _ => 5 - (intOf iv).toNat)
  case atStart => exact ⟨0, Nat.zero_le _, rfl, Turn.refl _ _⟩
  case round =>
    obtain ⟨i, hi, rfl, htr⟩ := hrel
    by_cases hl5 : i < 5
    · obtain ⟨xa, xc, hxf⟩ := HFORM.out i hl5
      have cc := (htr.cell (p := ⟨R, i, none⟩) HRL.out id).trans (HROW.out i hl5)
      have hsrc := (HFIVE.out.src i hl5).turn htr (fun _ _ => id)
      rw [hxf] at cc hsrc
      obtain ⟨XS, hXS⟩ : ∃ XS, XX i = XS := ⟨_, rfl⟩
      rw [hXS] at cc hsrc
      have HSRC := Lib.hid hsrc
      have HXB := Lib.hid (show Bytes8 XS from hXS ▸ HFIVE.out.b8 i hl5)
      have HXL := Lib.hid (show XS.length ≤ 20000 from hXS ▸ HFIVE.out.len i hl5)
      have HTR := Lib.hid htr
      have gk : (0 : Int) ≤ (i : Int) ∧ (i : Int) < 5 := by omega
      have dk : decide ((i : Int) < 5) = true := decide_eq_true (by omega)
      obtain ⟨ln, hln⟩ : ∃ ln, XS.length = ln := ⟨_, rfl⟩
      rw [hln] at cc HSRC
      have HLN := Lib.hid hln
      clear hsrc hxf hXS htr hln
      go_wp2_with fail
      refine (decode_any wr _ XS HSRC.out (by have := HXL.out; omega) HXB.out).mono ?_
      rintro r w20 ⟨t20, ⟨hdn, rfl⟩ | ⟨c, R2, hdc, rfl, hR2, hh2⟩⟩
      · go_wp2_with fail
        refine wp_region_held_drew (S := fun wq => True) (by kernel_rfl) trivial (fun hHeld => ?_)
        refine wpAnyH_take (i := 0) (v := .int .i64 7) rfl (by kernel_rfl) (by kernel_rfl) (by kernel_rfl) (fun _ _ _ h => h) (Or.inl ⟨by rfl, ?yaA1⟩) (by assumption) ?raA1
        case yaA1 => (intro wq hSw; (try simp only [List.getElem_toArray, List.getElem_cons_zero, List.getElem_cons_succ]); go_simp; (try with_reducible rfl); all_goals (try omega))
        case raA1 =>
        try simp only [Act.put, List.setIfInBounds_toArray, List.set_cons_zero, List.set_cons_succ, List.getElem_toArray, List.getElem_cons_zero, List.getElem_cons_succ]
        refine wpAnyH_take (i := 1) (v := .bool true) rfl (by kernel_rfl) (by kernel_rfl) (by kernel_rfl) (fun _ _ _ h => h) (Or.inl ⟨by rfl, ?yaA2⟩) (by assumption) ?raA2
        case yaA2 => (intro wq hSw; (try simp only [List.getElem_toArray, List.getElem_cons_zero, List.getElem_cons_succ]); go_simp; (try with_reducible rfl); all_goals (try omega))
        case raA2 =>
        try simp only [Act.put, List.setIfInBounds_toArray, List.set_cons_zero, List.set_cons_succ, List.getElem_toArray, List.getElem_cons_zero, List.getElem_cons_succ]
        refine wpAnyH_take (i := 2) (v := .bool true) rfl (by kernel_rfl) (by kernel_rfl) (by kernel_rfl) (fun _ _ _ h => h) (Or.inl ⟨by rfl, ?yaA3⟩) (by assumption) ?raA3
        case yaA3 => (intro wq hSw; (try simp only [List.getElem_toArray, List.getElem_cons_zero, List.getElem_cons_succ]); go_simp; (try with_reducible rfl); all_goals (try omega))
        case raA3 =>
        try simp only [Act.put, List.setIfInBounds_toArray, List.set_cons_zero, List.set_cons_succ, List.getElem_toArray, List.getElem_cons_zero, List.getElem_cons_succ]
        refine wpAnyH_take (i := 3) (v := .int .i64 7) rfl (by kernel_rfl) (by kernel_rfl) (by kernel_rfl) (fun _ _ _ h => h) (Or.inl ⟨by rfl, ?yaA4⟩) (by assumption) ?raA4
        case yaA4 => (intro wq hSw; (try simp only [List.getElem_toArray, List.getElem_cons_zero, List.getElem_cons_succ]); go_simp; (try with_reducible rfl); all_goals (try omega))
        case raA4 =>
        try simp only [Act.put, List.setIfInBounds_toArray, List.set_cons_zero, List.set_cons_succ, List.getElem_toArray, List.getElem_cons_zero, List.getElem_cons_succ]
        refine wpAnyH_take (i := 4) (v := .bool false) rfl (by kernel_rfl) (by kernel_rfl) (by kernel_rfl) (fun _ _ _ h => h) (Or.inl ⟨by rfl, ?yaA5⟩) (by assumption) ?raA5
        case yaA5 => (intro wq hSw; (try simp only [List.getElem_toArray, List.getElem_cons_zero, List.getElem_cons_succ]); go_simp; (try with_reducible rfl); all_goals (try omega))
        case raA5 =>
        try simp only [Act.put, List.setIfInBounds_toArray, List.set_cons_zero, List.set_cons_succ, List.getElem_toArray, List.getElem_cons_zero, List.getElem_cons_succ]
        refine wpAnyH_take (i := 5) (v := .bool false) rfl (by kernel_rfl) (by kernel_rfl) (by kernel_rfl) (fun _ _ _ h => h) (Or.inl ⟨by rfl, ?yaA6⟩) (by assumption) ?raA6
        case yaA6 => (intro wq hSw; (try simp only [List.getElem_toArray, List.getElem_cons_zero, List.getElem_cons_succ]); go_simp; (try with_reducible rfl); all_goals (try omega))
        case raA6 =>
        try simp only [Act.put, List.setIfInBounds_toArray, List.set_cons_zero, List.set_cons_succ, List.getElem_toArray, List.getElem_cons_zero, List.getElem_cons_succ]
        refine wpAnyH_take (i := 6) (v := .slice none 0 0) rfl (by kernel_rfl) (by kernel_rfl) (by kernel_rfl) (fun _ _ _ h => h) (Or.inl ⟨by rfl, ?yaA7⟩) (by assumption) ?raA7
        case yaA7 => (intro wq hSw; (try simp only [List.getElem_toArray, List.getElem_cons_zero, List.getElem_cons_succ]); go_simp; (try with_reducible rfl); all_goals (try omega))
        case raA7 =>
        try simp only [Act.put, List.setIfInBounds_toArray, List.set_cons_zero, List.set_cons_succ, List.getElem_toArray, List.getElem_cons_zero, List.getElem_cons_succ]
        refine wpAnyH_take (i := 7) (v := .int .i64 0) rfl (by kernel_rfl) (by kernel_rfl) (by kernel_rfl) (fun _ _ _ h => h) (Or.inl ⟨by rfl, ?yaA8⟩) (by assumption) ?raA8
        case yaA8 => (intro wq hSw; (try simp only [List.getElem_toArray, List.getElem_cons_zero, List.getElem_cons_succ]); go_simp; (try with_reducible rfl); all_goals (try omega))
        case raA8 =>
        try simp only [Act.put, List.setIfInBounds_toArray, List.set_cons_zero, List.set_cons_succ, List.getElem_toArray, List.getElem_cons_zero, List.getElem_cons_succ]
        refine wpAnyH_take (i := 8) (v := .bool false) rfl (by kernel_rfl) (by kernel_rfl) (by kernel_rfl) (fun _ _ _ h => h) (Or.inl ⟨by rfl, ?yaA9⟩) (by assumption) ?raA9
        case yaA9 => (intro wq hSw; (try simp only [List.getElem_toArray, List.getElem_cons_zero, List.getElem_cons_succ]); go_simp; (try with_reducible rfl); all_goals (try omega))
        case raA9 =>
        try simp only [Act.put, List.setIfInBounds_toArray, List.set_cons_zero, List.set_cons_succ, List.getElem_toArray, List.getElem_cons_zero, List.getElem_cons_succ]
        refine wpAnyH_take (i := 9) (v := .bool false) rfl (by kernel_rfl) (by kernel_rfl) (by kernel_rfl) (fun _ _ _ h => h) (Or.inl ⟨by rfl, ?yaA10⟩) (by assumption) ?raA10
        case yaA10 => (intro wq hSw; (try simp only [List.getElem_toArray, List.getElem_cons_zero, List.getElem_cons_succ]); go_simp; (try with_reducible rfl); all_goals (try omega))
        case raA10 =>
        try simp only [Act.put, List.setIfInBounds_toArray, List.set_cons_zero, List.set_cons_succ, List.getElem_toArray, List.getElem_cons_zero, List.getElem_cons_succ]
        refine wpAnyH_take (i := 10) (v := .bool false) rfl (by kernel_rfl) (by kernel_rfl) (by kernel_rfl) (fun _ _ _ h => h) (Or.inl ⟨by rfl, ?yaA11⟩) (by assumption) ?raA11
        case yaA11 => (intro wq hSw; (try simp only [List.getElem_toArray, List.getElem_cons_zero, List.getElem_cons_succ]); go_simp; (try with_reducible rfl); all_goals (try omega))
        case raA11 =>
        try simp only [Act.put, List.setIfInBounds_toArray, List.set_cons_zero, List.set_cons_succ, List.getElem_toArray, List.getElem_cons_zero, List.getElem_cons_succ]
        refine wpAnyH_take (i := 11) (v := .bool false) rfl (by kernel_rfl) (by kernel_rfl) (by kernel_rfl) (fun _ _ _ h => h) (Or.inl ⟨by rfl, ?yaA12⟩) (by assumption) ?raA12
        case yaA12 => (intro wq hSw; (try simp only [List.getElem_toArray, List.getElem_cons_zero, List.getElem_cons_succ]); go_simp; (try with_reducible rfl); all_goals (try omega))
        case raA12 =>
        try simp only [Act.put, List.setIfInBounds_toArray, List.set_cons_zero, List.set_cons_succ, List.getElem_toArray, List.getElem_cons_zero, List.getElem_cons_succ]
        refine wpAnyH_take (i := 12) (v := .int .i64 7) rfl (by kernel_rfl) (by kernel_rfl) (by kernel_rfl) (fun _ _ _ h => h) (Or.inl ⟨by rfl, ?yaA13⟩) (by assumption) ?raA13
        case yaA13 => (intro wq hSw; (try simp only [List.getElem_toArray, List.getElem_cons_zero, List.getElem_cons_succ]); go_simp; (try with_reducible rfl); all_goals (try omega))
        case raA13 =>
        try simp only [Act.put, List.setIfInBounds_toArray, List.set_cons_zero, List.set_cons_succ, List.getElem_toArray, List.getElem_cons_zero, List.getElem_cons_succ]
        refine wpAnyH_take (i := 13) (v := .bool false) rfl (by kernel_rfl) (by kernel_rfl) (by kernel_rfl) (fun _ _ _ h => h) (Or.inl ⟨by rfl, ?yaA14⟩) (by assumption) ?raA14
        case yaA14 => (intro wq hSw; (try simp only [List.getElem_toArray, List.getElem_cons_zero, List.getElem_cons_succ]); go_simp; (try with_reducible rfl); all_goals (try omega))
        case raA14 =>
        try simp only [Act.put, List.setIfInBounds_toArray, List.set_cons_zero, List.set_cons_succ, List.getElem_toArray, List.getElem_cons_zero, List.getElem_cons_succ]
        refine wpAnyH_take (i := 14) (v := .bool false) rfl (by kernel_rfl) (by kernel_rfl) (by kernel_rfl) (fun _ _ _ h => h) (Or.inl ⟨by rfl, ?yaA15⟩) (by assumption) ?raA15
        case yaA15 => (intro wq hSw; (try simp only [List.getElem_toArray, List.getElem_cons_zero, List.getElem_cons_succ]); go_simp; (try with_reducible rfl); all_goals (try omega))
        case raA15 =>
        try simp only [Act.put, List.setIfInBounds_toArray, List.set_cons_zero, List.set_cons_succ, List.getElem_toArray, List.getElem_cons_zero, List.getElem_cons_succ]
        refine wpAnyH_take (i := 15) (v := undef) rfl (by kernel_rfl) (by kernel_rfl) (by kernel_rfl) (fun _ _ _ h => h) (Or.inr ⟨by rfl, rfl⟩) (by assumption) ?raA16
        case raA16 =>
        try simp only [Act.put, List.setIfInBounds_toArray, List.set_cons_zero, List.set_cons_succ, List.getElem_toArray, List.getElem_cons_zero, List.getElem_cons_succ]
        refine wpAnyH_take (i := 16) (v := undef) rfl (by kernel_rfl) (by kernel_rfl) (by kernel_rfl) (fun _ _ _ h => h) (Or.inr ⟨by rfl, rfl⟩) (by assumption) ?raA17
        case raA17 =>
        try simp only [Act.put, List.setIfInBounds_toArray, List.set_cons_zero, List.set_cons_succ, List.getElem_toArray, List.getElem_cons_zero, List.getElem_cons_succ]
        refine wpAnyH_take (i := 17) (v := undef) rfl (by kernel_rfl) (by kernel_rfl) (by kernel_rfl) (fun _ _ _ h => h) (Or.inr ⟨by rfl, rfl⟩) (by assumption) ?raA18
        case raA18 =>
        try simp only [Act.put, List.setIfInBounds_toArray, List.set_cons_zero, List.set_cons_succ, List.getElem_toArray, List.getElem_cons_zero, List.getElem_cons_succ]
        refine wpAnyH_take (i := 18) (v := undef) rfl (by kernel_rfl) (by kernel_rfl) (by kernel_rfl) (fun _ _ _ h => h) (Or.inr ⟨by rfl, rfl⟩) (by assumption) ?raA19
        case raA19 =>
        try simp only [Act.put, List.setIfInBounds_toArray, List.set_cons_zero, List.set_cons_succ, List.getElem_toArray, List.getElem_cons_zero, List.getElem_cons_succ]
        refine wpAnyH_take (i := 19) (v := undef) rfl (by kernel_rfl) (by kernel_rfl) (by kernel_rfl) (fun _ _ _ h => h) (Or.inr ⟨by rfl, rfl⟩) (by assumption) ?raA20
        case raA20 =>
        try simp only [Act.put, List.setIfInBounds_toArray, List.set_cons_zero, List.set_cons_succ, List.getElem_toArray, List.getElem_cons_zero, List.getElem_cons_succ]
        refine wpAnyH_take (i := 20) (v := undef) rfl (by kernel_rfl) (by kernel_rfl) (by kernel_rfl) (fun _ _ _ h => h) (Or.inr ⟨by rfl, rfl⟩) (by assumption) ?raA21
        case raA21 =>
        try simp only [Act.put, List.setIfInBounds_toArray, List.set_cons_zero, List.set_cons_succ, List.getElem_toArray, List.getElem_cons_zero, List.getElem_cons_succ]
        refine wpAnyH_take (i := 21) (v := undef) rfl (by kernel_rfl) (by kernel_rfl) (by kernel_rfl) (fun _ _ _ h => h) (Or.inr ⟨by rfl, rfl⟩) (by assumption) ?raA22
        case raA22 =>
        try simp only [Act.put, List.setIfInBounds_toArray, List.set_cons_zero, List.set_cons_succ, List.getElem_toArray, List.getElem_cons_zero, List.getElem_cons_succ]
        refine wpAnyH_take (i := 22) (v := undef) rfl (by kernel_rfl) (by kernel_rfl) (by kernel_rfl) (fun _ _ _ h => h) (Or.inr ⟨by rfl, rfl⟩) (by assumption) ?raA23
        case raA23 =>
        try simp only [Act.put, List.setIfInBounds_toArray, List.set_cons_zero, List.set_cons_succ, List.getElem_toArray, List.getElem_cons_zero, List.getElem_cons_succ]
        refine wpAnyH_take (i := 23) (v := undef) rfl (by kernel_rfl) (by kernel_rfl) (by kernel_rfl) (fun _ _ _ h => h) (Or.inr ⟨by rfl, rfl⟩) (by assumption) ?raA24
        case raA24 =>
        try simp only [Act.put, List.setIfInBounds_toArray, List.set_cons_zero, List.set_cons_succ, List.getElem_toArray, List.getElem_cons_zero, List.getElem_cons_succ]
        refine wpAnyH_take (i := 24) (v := undef) rfl (by kernel_rfl) (by kernel_rfl) (by kernel_rfl) (fun _ _ _ h => h) (Or.inr ⟨by rfl, rfl⟩) (by assumption) ?raA25
        case raA25 =>
        try simp only [Act.put, List.setIfInBounds_toArray, List.set_cons_zero, List.set_cons_succ, List.getElem_toArray, List.getElem_cons_zero, List.getElem_cons_succ]
        refine wpAnyH_take (i := 25) (v := undef) rfl (by kernel_rfl) (by kernel_rfl) (by kernel_rfl) (fun _ _ _ h => h) (Or.inr ⟨by rfl, rfl⟩) (by assumption) ?raA26
        case raA26 =>
        try simp only [Act.put, List.setIfInBounds_toArray, List.set_cons_zero, List.set_cons_succ, List.getElem_toArray, List.getElem_cons_zero, List.getElem_cons_succ]
        refine wpAnyH_take (i := 26) (v := .bool false) rfl (by kernel_rfl) (by kernel_rfl) (by kernel_rfl) (fun _ _ _ h => h) (Or.inl ⟨by rfl, ?yaA27⟩) (by assumption) ?raA27
        case yaA27 => (intro wq hSw; (try simp only [List.getElem_toArray, List.getElem_cons_zero, List.getElem_cons_succ]); go_simp; (try with_reducible rfl); all_goals (try omega))
        case raA27 =>
        try simp only [Act.put, List.setIfInBounds_toArray, List.set_cons_zero, List.set_cons_succ, List.getElem_toArray, List.getElem_cons_zero, List.getElem_cons_succ]
        refine wpAnyH_take (i := 27) (v := .bool false) rfl (by kernel_rfl) (by kernel_rfl) (by kernel_rfl) (fun _ _ _ h => h) (Or.inl ⟨by rfl, ?yaA28⟩) (by assumption) ?raA28
        case yaA28 => (intro wq hSw; (try simp only [List.getElem_toArray, List.getElem_cons_zero, List.getElem_cons_succ]); go_simp; (try with_reducible rfl); all_goals (try omega))
        case raA28 =>
        try simp only [Act.put, List.setIfInBounds_toArray, List.set_cons_zero, List.set_cons_succ, List.getElem_toArray, List.getElem_cons_zero, List.getElem_cons_succ]
        refine wpAnyH_done (by kernel_rfl) ?_ _
        clear hHeld
        go_wp2_with fail
        go_roundw
        case rel => exact ⟨i + 1, by omega, by go_num, (HTR.out.trans t20 (fun _ _ => id)).drew⟩
        case measure => simp [intOf]; omega
      · have T20 := Lib.hid (HTR.out.trans t20 (fun _ _ => id))
        obtain ⟨hbc, hrc, hkc⟩ := decE_some HXB.out hdc
        have HBC := Lib.hid hbc.symm
        have HRC := Lib.hid (show rightE c = true ∧ c.length ≤ 1000 from ⟨hrc, by have := (right_iff.1 hrc).1; omega⟩)
        have HKC := Lib.hid hkc
        have hrow := rowV_of hh2
        obtain ⟨cl, hcl⟩ : ∃ cl, c.length = cl := ⟨_, rfl⟩
        rw [hcl] at hrow
        rw [hcl]
        have RVC := Lib.hid hrow
        have HS20 := Lib.hid (show Src w20 (.slice xa ln xc) XS from HSRC.out.turn t20 (fun _ _ => id))
        obtain ⟨S, hS⟩ : ∃ S, strOfNums XS = S := ⟨_, rfl⟩
        have HSS := Lib.hid hS
        have dS : (S.toList == S.toList) = true := by simp
        have dS2 : (S.toList != S.toList) = false := by simp
        clear t20 hbc hrc hkc hrow hcl hS hh2 hdc hR2
        go_wp2_with fail
        refine wp_region_held_drew (S := fun wq => Src wq (.slice xa ln xc) XS) (by kernel_rfl) HS20.out (fun hHeld => ?_)
        refine wpAnyH_take (i := 0) (v := .int .i64 0) rfl (by kernel_rfl) (by kernel_rfl) (by kernel_rfl) (fun _ _ _ h => h) (Or.inl ⟨by rfl, ?yaB1⟩) (by assumption) ?raB1
        case yaB1 => (intro wq hSw; (try simp only [List.getElem_toArray, List.getElem_cons_zero, List.getElem_cons_succ]); go_simp; (try with_reducible rfl); all_goals (try omega))
        case raB1 =>
        try simp only [Act.put, List.setIfInBounds_toArray, List.set_cons_zero, List.set_cons_succ, List.getElem_toArray, List.getElem_cons_zero, List.getElem_cons_succ]
        refine wpAnyH_take (i := 1) (v := .bool false) rfl (by kernel_rfl) (by kernel_rfl) (by kernel_rfl) (fun _ _ _ h => h) (Or.inl ⟨by rfl, ?yaB2⟩) (by assumption) ?raB2
        case yaB2 => (intro wq hSw; (try simp only [List.getElem_toArray, List.getElem_cons_zero, List.getElem_cons_succ]); go_simp; (try with_reducible rfl); all_goals (try omega))
        case raB2 =>
        try simp only [Act.put, List.setIfInBounds_toArray, List.set_cons_zero, List.set_cons_succ, List.getElem_toArray, List.getElem_cons_zero, List.getElem_cons_succ]
        refine wpAnyH_take (i := 2) (v := .bool false) rfl (by kernel_rfl) (by kernel_rfl) (by kernel_rfl) (fun _ _ _ h => h) (Or.inl ⟨by rfl, ?yaB3⟩) (by assumption) ?raB3
        case yaB3 => (intro wq hSw; (try simp only [List.getElem_toArray, List.getElem_cons_zero, List.getElem_cons_succ]); go_simp; (try with_reducible rfl); all_goals (try omega))
        case raB3 =>
        try simp only [Act.put, List.setIfInBounds_toArray, List.set_cons_zero, List.set_cons_succ, List.getElem_toArray, List.getElem_cons_zero, List.getElem_cons_succ]
        refine wpAnyH_take (i := 3) (v := undef) rfl (by kernel_rfl) (by kernel_rfl) (by kernel_rfl) (fun _ _ _ h => h) (Or.inr ⟨by rfl, rfl⟩) (by assumption) ?raB4
        case raB4 =>
        try simp only [Act.put, List.setIfInBounds_toArray, List.set_cons_zero, List.set_cons_succ, List.getElem_toArray, List.getElem_cons_zero, List.getElem_cons_succ]
        refine wpAnyH_take (i := 4) (v := undef) rfl (by kernel_rfl) (by kernel_rfl) (by kernel_rfl) (fun _ _ _ h => h) (Or.inr ⟨by rfl, rfl⟩) (by assumption) ?raB5
        case raB5 =>
        try simp only [Act.put, List.setIfInBounds_toArray, List.set_cons_zero, List.set_cons_succ, List.getElem_toArray, List.getElem_cons_zero, List.getElem_cons_succ]
        refine wpAnyH_take (i := 5) (v := undef) rfl (by kernel_rfl) (by kernel_rfl) (by kernel_rfl) (fun _ _ _ h => h) (Or.inr ⟨by rfl, rfl⟩) (by assumption) ?raB6
        case raB6 =>
        try simp only [Act.put, List.setIfInBounds_toArray, List.set_cons_zero, List.set_cons_succ, List.getElem_toArray, List.getElem_cons_zero, List.getElem_cons_succ]
        refine wpAnyH_take (i := 6) (v := undef) rfl (by kernel_rfl) (by kernel_rfl) (by kernel_rfl) (fun _ _ _ h => h) (Or.inr ⟨by rfl, rfl⟩) (by assumption) ?raB7
        case raB7 =>
        try simp only [Act.put, List.setIfInBounds_toArray, List.set_cons_zero, List.set_cons_succ, List.getElem_toArray, List.getElem_cons_zero, List.getElem_cons_succ]
        refine wpAnyH_take (i := 7) (v := undef) rfl (by kernel_rfl) (by kernel_rfl) (by kernel_rfl) (fun _ _ _ h => h) (Or.inr ⟨by rfl, rfl⟩) (by assumption) ?raB8
        case raB8 =>
        try simp only [Act.put, List.setIfInBounds_toArray, List.set_cons_zero, List.set_cons_succ, List.getElem_toArray, List.getElem_cons_zero, List.getElem_cons_succ]
        refine wpAnyH_take (i := 8) (v := undef) rfl (by kernel_rfl) (by kernel_rfl) (by kernel_rfl) (fun _ _ _ h => h) (Or.inr ⟨by rfl, rfl⟩) (by assumption) ?raB9
        case raB9 =>
        try simp only [Act.put, List.setIfInBounds_toArray, List.set_cons_zero, List.set_cons_succ, List.getElem_toArray, List.getElem_cons_zero, List.getElem_cons_succ]
        refine wpAnyH_take (i := 9) (v := undef) rfl (by kernel_rfl) (by kernel_rfl) (by kernel_rfl) (fun _ _ _ h => h) (Or.inr ⟨by rfl, rfl⟩) (by assumption) ?raB10
        case raB10 =>
        try simp only [Act.put, List.setIfInBounds_toArray, List.set_cons_zero, List.set_cons_succ, List.getElem_toArray, List.getElem_cons_zero, List.getElem_cons_succ]
        refine wpAnyH_take (i := 10) (v := .bool false) rfl (by kernel_rfl) (by kernel_rfl) (by kernel_rfl) (fun _ _ _ h => h) (Or.inl ⟨by rfl, ?yaB11⟩) (by assumption) ?raB11
        case yaB11 => (intro wq hSw; (try simp only [List.getElem_toArray, List.getElem_cons_zero, List.getElem_cons_succ]); go_simp; (try with_reducible rfl); all_goals (try omega))
        case raB11 =>
        try simp only [Act.put, List.setIfInBounds_toArray, List.set_cons_zero, List.set_cons_succ, List.getElem_toArray, List.getElem_cons_zero, List.getElem_cons_succ]
        refine wpAnyH_take (i := 11) (v := .bool false) rfl (by kernel_rfl) (by kernel_rfl) (by kernel_rfl) (fun _ _ _ h => h) (Or.inl ⟨by rfl, ?yaB12⟩) (by assumption) ?raB12
        case yaB12 => (intro wq hSw; (try simp only [List.getElem_toArray, List.getElem_cons_zero, List.getElem_cons_succ]); go_simp; (try with_reducible rfl); all_goals (try omega))
        case raB12 =>
        try simp only [Act.put, List.setIfInBounds_toArray, List.set_cons_zero, List.set_cons_succ, List.getElem_toArray, List.getElem_cons_zero, List.getElem_cons_succ]
        refine wpAnyH_take (i := 12) (v := .int .i64 0) rfl (by kernel_rfl) (by kernel_rfl) (by kernel_rfl) (fun _ _ _ h => h) (Or.inl ⟨by rfl, ?yaB13⟩) (by assumption) ?raB13
        case yaB13 => (intro wq hSw; (try simp only [List.getElem_toArray, List.getElem_cons_zero, List.getElem_cons_succ]); go_simp; (try with_reducible rfl); all_goals (try omega))
        case raB13 =>
        try simp only [Act.put, List.setIfInBounds_toArray, List.set_cons_zero, List.set_cons_succ, List.getElem_toArray, List.getElem_cons_zero, List.getElem_cons_succ]
        refine wpAnyH_take (i := 13) (v := .bool true) rfl (by kernel_rfl) (by kernel_rfl) (by kernel_rfl) (fun _ _ _ h => h) (Or.inl ⟨by rfl, ?yaB14⟩) (by assumption) ?raB14
        case yaB14 => (intro wq hSw; (try simp only [List.getElem_toArray, List.getElem_cons_zero, List.getElem_cons_succ]); go_simp; (try with_reducible rfl); all_goals (try omega))
        case raB14 =>
        try simp only [Act.put, List.setIfInBounds_toArray, List.set_cons_zero, List.set_cons_succ, List.getElem_toArray, List.getElem_cons_zero, List.getElem_cons_succ]
        refine wpAnyH_take (i := 14) (v := .bool true) rfl (by kernel_rfl) (by kernel_rfl) (by kernel_rfl) (fun _ _ _ h => h) (Or.inl ⟨by rfl, ?yaB15⟩) (by assumption) ?raB15
        case yaB15 => (intro wq hSw; (try simp only [List.getElem_toArray, List.getElem_cons_zero, List.getElem_cons_succ]); go_simp; (try with_reducible rfl); all_goals (try omega))
        case raB15 =>
        try simp only [Act.put, List.setIfInBounds_toArray, List.set_cons_zero, List.set_cons_succ, List.getElem_toArray, List.getElem_cons_zero, List.getElem_cons_succ]
        refine wpAnyH_take (i := 15) (v := .slice (some ⟨R2, 0, none⟩) cl cl) rfl (by kernel_rfl) (by kernel_rfl) (by kernel_rfl) (fun _ _ _ h => h) (Or.inl ⟨by rfl, ?yaB16⟩) (by assumption) ?raB16
        case yaB16 => (intro wq hSw; (try simp only [List.getElem_toArray, List.getElem_cons_zero, List.getElem_cons_succ]); go_simp; (try with_reducible rfl); all_goals (try omega))
        case raB16 =>
        try simp only [Act.put, List.setIfInBounds_toArray, List.set_cons_zero, List.set_cons_succ, List.getElem_toArray, List.getElem_cons_zero, List.getElem_cons_succ]
        refine wpAnyH_ready (rs := [16]) (by kernel_rfl) (by simp) ?_
        refine AllReadyH.cons rfl (fun K hK => ?_) AllReadyH.nil
        go_simp
        refine (rright_any w20.drew _ c (RVC.out.turn ((Turn.refl (fun _ => False) w20).drew) (fun _ _ => id)) (by have := HRC.out.2; omega)).mono ?_
        rintro r w21 ⟨rfl, t21⟩
        rw [HRC.out.1]
        have T21 := Lib.hid (show Turn (fun _ => False) w20 w21 from (Turn.refl (fun _ => False) w20).drew.trans t21 (fun _ _ => id))
        clear t21
        refine hK.out _ _ (HS20.out.turn T21.out (fun _ _ => id)) (fun _ => ?_)
        clear hK K
        try simp only [Act.put, List.setIfInBounds_toArray, List.set_cons_zero, List.set_cons_succ, List.getElem_toArray, List.getElem_cons_zero, List.getElem_cons_succ]
        refine wpAnyH_take (i := 17) (v := .bool false) rfl (by kernel_rfl) (by kernel_rfl) (by kernel_rfl) (fun _ _ _ h => h) (Or.inl ⟨by rfl, ?yaB17⟩) (by assumption) ?raB17
        case yaB17 => (intro wq hSw; (try simp only [List.getElem_toArray, List.getElem_cons_zero, List.getElem_cons_succ]); go_simp; (try with_reducible rfl); all_goals (try omega))
        case raB17 =>
        try simp only [Act.put, List.setIfInBounds_toArray, List.set_cons_zero, List.set_cons_succ, List.getElem_toArray, List.getElem_cons_zero, List.getElem_cons_succ]
        refine wpAnyH_take (i := 18) (v := .bool false) rfl (by kernel_rfl) (by kernel_rfl) (by kernel_rfl) (fun _ _ _ h => h) (Or.inl ⟨by rfl, ?yaB18⟩) (by assumption) ?raB18
        case yaB18 => (intro wq hSw; (try simp only [List.getElem_toArray, List.getElem_cons_zero, List.getElem_cons_succ]); go_simp; (try with_reducible rfl); all_goals (try omega))
        case raB18 =>
        try simp only [Act.put, List.setIfInBounds_toArray, List.set_cons_zero, List.set_cons_succ, List.getElem_toArray, List.getElem_cons_zero, List.getElem_cons_succ]
        refine wpAnyH_take (i := 19) (v := .slice (some ⟨R2, 0, none⟩) cl cl) rfl (by kernel_rfl) (by kernel_rfl) (by kernel_rfl) (fun _ _ _ h => h) (Or.inl ⟨by rfl, ?yaB19⟩) (by assumption) ?raB19
        case yaB19 => (intro wq hSw; (try simp only [List.getElem_toArray, List.getElem_cons_zero, List.getElem_cons_succ]); go_simp; (try with_reducible rfl); all_goals (try omega))
        case raB19 =>
        try simp only [Act.put, List.setIfInBounds_toArray, List.set_cons_zero, List.set_cons_succ, List.getElem_toArray, List.getElem_cons_zero, List.getElem_cons_succ]
        refine wpAnyH_take (i := 22) (v := .slice xa ln xc) rfl (by kernel_rfl) (by kernel_rfl) (by kernel_rfl) (fun _ _ _ h => h) (Or.inl ⟨by rfl, ?yaB20⟩) (by assumption) ?raB20
        case yaB20 => (intro wq hSw; (try simp only [List.getElem_toArray, List.getElem_cons_zero, List.getElem_cons_succ]); go_simp; (try with_reducible rfl); all_goals (try omega))
        case raB20 =>
        try simp only [Act.put, List.setIfInBounds_toArray, List.set_cons_zero, List.set_cons_succ, List.getElem_toArray, List.getElem_cons_zero, List.getElem_cons_succ]
        refine wpAnyH_take (i := 23) (v := .string S) rfl (by kernel_rfl) (by kernel_rfl) (by kernel_rfl) (fun _ _ _ h => h) (Or.inl ⟨by rfl, ?yaB21⟩) (by assumption) ?raB21
        case yaB21 => (intro wq hSw; rw [← HSS.out]; exact conv_exec (v := .slice xa ln xc) (xs := XS) _ _ _ rfl rfl hSw)
        case raB21 =>
        try simp only [Act.put, List.setIfInBounds_toArray, List.set_cons_zero, List.set_cons_succ, List.getElem_toArray, List.getElem_cons_zero, List.getElem_cons_succ]
        refine wpAnyH_ready (rs := [20]) (by kernel_rfl) (by simp) ?_
        refine AllReadyH.cons rfl (fun K hK => ?_) AllReadyH.nil
        go_simp
        refine (rbytes_any w21 _ c (RVC.out.turn T21.out (fun _ _ => id)) HRC.out.1 HKC.out).mono ?_
        rintro r w22 ⟨bv, rfl, ho22, t22⟩
        rw [HBC.out] at ho22
        have T22 := Lib.hid (T21.out.trans t22 (fun _ _ => id))
        have HO22 := Lib.hid ho22
        clear t22 ho22
        refine hK.out _ _ (HS20.out.turn T22.out (fun _ _ => id)) (fun _ => ?_)
        clear hK K
        try simp only [Act.put, List.setIfInBounds_toArray, List.set_cons_zero, List.set_cons_succ, List.getElem_toArray, List.getElem_cons_zero, List.getElem_cons_succ]
        refine wpAnyH_ready (rs := [21]) (by kernel_rfl) (by simp) ?_
        refine AllReadyH.cons rfl (fun K hK => ?_) AllReadyH.nil
        rw [if_pos (by rfl)]
        refine wp_exec (v := .string S) (w' := w22) (by rw [← HSS.out]; exact conv_exec (v := bv) (xs := XS) _ _ _ rfl rfl (.inl (Reads.of_owns HO22.out))) ?_
        refine hK.out _ _ (HS20.out.turn T22.out (fun _ _ => id)) (fun _ => ?_)
        clear hK K
        try simp only [Act.put, List.setIfInBounds_toArray, List.set_cons_zero, List.set_cons_succ, List.getElem_toArray, List.getElem_cons_zero, List.getElem_cons_succ]
        refine wpAnyH_take (i := 24) (v := .bool false) rfl (by kernel_rfl) (by kernel_rfl) (by kernel_rfl) (fun _ _ _ h => h) (Or.inl ⟨by rfl, ?yaB22⟩) (by assumption) ?raB22
        case yaB22 => (intro wq hSw; (try simp only [List.getElem_toArray, List.getElem_cons_zero, List.getElem_cons_succ]); go_simp; (try with_reducible rfl); all_goals (try omega))
        case raB22 =>
        try simp only [Act.put, List.setIfInBounds_toArray, List.set_cons_zero, List.set_cons_succ, List.getElem_toArray, List.getElem_cons_zero, List.getElem_cons_succ]
        refine wpAnyH_take (i := 25) (v := .bool false) rfl (by kernel_rfl) (by kernel_rfl) (by kernel_rfl) (fun _ _ _ h => h) (Or.inl ⟨by rfl, ?yaB23⟩) (by assumption) ?raB23
        case yaB23 => (intro wq hSw; (try simp only [List.getElem_toArray, List.getElem_cons_zero, List.getElem_cons_succ]); go_simp; (try with_reducible rfl); all_goals (try omega))
        case raB23 =>
        try simp only [Act.put, List.setIfInBounds_toArray, List.set_cons_zero, List.set_cons_succ, List.getElem_toArray, List.getElem_cons_zero, List.getElem_cons_succ]
        refine wpAnyH_take (i := 26) (v := .bool false) rfl (by kernel_rfl) (by kernel_rfl) (by kernel_rfl) (fun _ _ _ h => h) (Or.inl ⟨by rfl, ?yaB24⟩) (by assumption) ?raB24
        case yaB24 => (intro wq hSw; (try simp only [List.getElem_toArray, List.getElem_cons_zero, List.getElem_cons_succ]); go_simp; (try with_reducible rfl); all_goals (try omega))
        case raB24 =>
        try simp only [Act.put, List.setIfInBounds_toArray, List.set_cons_zero, List.set_cons_succ, List.getElem_toArray, List.getElem_cons_zero, List.getElem_cons_succ]
        refine wpAnyH_take (i := 27) (v := .bool false) rfl (by kernel_rfl) (by kernel_rfl) (by kernel_rfl) (fun _ _ _ h => h) (Or.inl ⟨by rfl, ?yaB25⟩) (by assumption) ?raB25
        case yaB25 => (intro wq hSw; (try simp only [List.getElem_toArray, List.getElem_cons_zero, List.getElem_cons_succ]); go_simp; (try with_reducible rfl); all_goals (try omega))
        case raB25 =>
        try simp only [Act.put, List.setIfInBounds_toArray, List.set_cons_zero, List.set_cons_succ, List.getElem_toArray, List.getElem_cons_zero, List.getElem_cons_succ]
        refine wpAnyH_done (by kernel_rfl) ?_ _
        clear hHeld dS dS2
        go_wp2_with fail
        go_roundw
        case rel => exact ⟨i + 1, by omega, by go_num, T20.out.trans T22.out (fun _ _ => id)⟩
        case measure => simp [intOf]; omega
    · obtain rfl : i = 5 := by omega
      have dk : decide (((5 : Nat) : Int) < 5) = false := by decide
      have HTR := Lib.hid htr
      clear htr
      go_wp2_with fail
      go_ret
      exact ⟨by first | rfl | simp, TO.out.trans HTR.out (fun _ _ => id)⟩
end Go.Proofs.Ytokjlhpkjebnkaa
