/- Own contracts: edits: apply. No statement is proved here. -/
import Derived.Test.YtbokdgcdkmnldaaEj
namespace Go.Proofs.Ytbokdgcdkmnldaa
set_option maxRecDepth 100000
open Go.RowKit
set_option linter.unusedVariables false
set_option linter.unusedSimpArgs false

theorem drop_cons_ed (l : List Ed) (k : Nat) (h : k < l.length) : l.drop k = l.getD k ed0 :: l.drop (k + 1) := by
  rw [List.drop_eq_getElem_cons h]
  simp [List.getD, h]
/-- A chart behind some edits, or the first error and its place, as a triple. -/
def AppP (w : World) (r : List El × Nat × Int) (e : Ending) (w' : World) : Prop := ∃ v, e = .returned (.tuple #[v, .int .i64 (r.2.1 : Int), .int .i64 r.2.2]) ∧ RowV w' v r.1 ∧ Turn (fun _ => False) w w'
set_option maxHeartbeats 4000000 in
theorem apply_any (w : World) (v u : Value) (l : List El) (xs : List Ed) (hv : RowV w v l) (hu : EdV w u xs) (hb : l.length + xs.length ≤ 900) (hk : KOk l) (hx : ∀ x ∈ xs, EdOk x) : Calls Try.prog 14 #[v, u] w (AppP w (applyE l xs)) := by
  obtain ⟨la, lc, rfl⟩ := hu.form
  obtain ⟨n, hn⟩ : ∃ n, xs.length = n := ⟨_, rfl⟩
  simp only [hn] at hu hb ⊢
  have hn9 : n ≤ 900 := by omega
  have HV := Lib.hid hv
  have HU := Lib.hid hu
  have HN := Lib.hid hn
  have HB := Lib.hid hb
  have HK := Lib.hid hk
  have HX := Lib.hid hx
  clear hv hu hn hb hk hx
  go_enter Try.func14, Try.ntmps14
  go_wp2_with fail
  refine (rises_any w v l HV.out (by have := HB.out; omega)).mono ?_
  rintro r w1 ⟨rfl, t1⟩
  have HV1 := Lib.hid (HV.out.turn t1 (fun _ _ => id))
  have T1 := Lib.hid t1
  clear t1
  cases hrs : risesB l
  · have HA := Lib.hid (show applyE l xs = ([], 0, 7) by unfold applyE; rw [if_pos hrs])
    clear hrs
    go_wp2_with fail
    go_ret3
    refine ⟨_, by rw [HA.out]; rfl, by rw [HA.out]; exact .inl ⟨rfl, rfl⟩, T1.out⟩
  · have HA := Lib.hid (show applyE l xs = applyFrom l xs 0 by unfold applyE; rw [if_neg (by simp [hrs])])
    clear hrs
    go_wp2_with fail
    refine (clone_els w1 v l HV1.out (by have := HB.out; omega)).mono ?_
    rintro r w2 hne
    obtain ⟨v2, rfl, hv2, t2, _⟩ := newEls_row hne
    have HV2 := Lib.hid hv2
    have T2 := Lib.hid (T1.out.trans t2 (fun _ _ => id))
    clear hv2 t2 hne
    go_wp2_with fail
    go_loopw [0, 18] (fun cv iv wr => ∃ (k : Nat) (c : List El), k ≤ n ∧ iv = .int .i64 (k : Int) ∧ RowV wr cv c ∧ KOk c ∧ c.length ≤ l.length + k ∧ applyFrom l xs 0 = applyFrom c (xs.drop k) k ∧ Turn (fun _ => False) w wr) (fun _ iv _ => n - (intOf iv).toNat)
    case atStart => exact ⟨0, l, Nat.zero_le _, rfl, HV2.out, HK.out, Nat.le_refl _, rfl, T2.out⟩
    case round =>
      obtain ⟨k, c, hkn, rfl, hcv, hkc, hlc, hap, htr⟩ := hrel
      have HCV := Lib.hid hcv
      have HKC := Lib.hid hkc
      have HLC := Lib.hid hlc
      have HAP := Lib.hid hap
      have HT := Lib.hid htr
      clear hcv hkc hlc hap htr
      by_cases hlt : k < n
      · have gi : (0 : Int) ≤ (k : Int) ∧ (k : Int) < (n : Int) := by omega
        have dk : decide ((k : Int) < (n : Int)) = true := decide_eq_true (by omega)
        obtain ⟨g, o, rfl, hc, hs⟩ := (HU.out.turn HT.out (fun _ _ => id)).one HN.out k hlt
        have hxo := HX.out (xs.getD k ed0) (getD_mem_ed (by rw [HN.out]; exact hlt))
        have hdr := drop_cons_ed xs k (by rw [HN.out]; exact hlt)
        obtain ⟨x, hx⟩ : ∃ x, xs.getD k ed0 = x := ⟨_, rfl⟩
        rw [hx] at hs hxo hdr
        have hap2 : applyFrom l xs 0 = if (oneE c x).2 = 0 then applyFrom (oneE c x).1 (xs.drop (k + 1)) (k + 1) else ([], k, (oneE c x).2) := by rw [HAP.out, hdr]; rfl
        have HS := Lib.hid hs
        have HXO := Lib.hid hxo
        have HA2 := Lib.hid hap2
        clear hs hxo hdr hap2 hx hc
        obtain ⟨B, hB⟩ : ∃ Z, wr.heap.size = Z := ⟨_, rfl⟩
        obtain ⟨wz, hwz⟩ : ∃ wz, wr.alloc (.cells ed0.vals.toArray 28) = wz := ⟨_, rfl⟩
        have hx0 : ∀ ev op, op.op = .alloc 28 → (execOp ev op).run Try.prog wr = .ok (.value (.pointer (some ⟨B, 0, none⟩))) wz := fun ev op ho => by rw [← hwz, ← hB]; exact exec_zero_ed ev op ho _
        have hb0 := box_alloc wr 28 ed0.vals
        rw [hwz] at hb0
        have hh0 := hb0.heap
        rw [hB] at hh0
        have HXX0 := Lib.hid hx0
        have HB0 := Lib.hid hb0
        have HH0 := Lib.hid hh0
        have HE0 := Lib.hid hB
        clear hb0 hB hwz hx0 hh0
        go_wp2_with (with_reducible (show wpList _ _ _ (Oper.mk (some 22) (.load 28 (.tmp 21)) _ _ _ _ :: _) _ _); refine still ?_)
        refine wpList_load_mid rfl 28 (.tmp 21) rfl g (o + k * 16) rfl x.vals _ HS.out Try.underlying28 rfl ed_info ?_
        go_wp2_with (with_reducible (show wpList _ _ _ (Oper.mk (some 8) (.alloc 28) _ _ _ _ :: _) _ _); refine still ?_)
        refine list_exec rfl _ _ (HXX0.out _ _ rfl) ?_
        go_wp2_with (with_reducible (show wpList _ _ _ (Oper.mk none (.store 28 (.tmp 8) (.tmp 22)) _ _ _ _ :: _) _ _); refine still ?_)
        refine list_put wz B 28 ed0.vals x.vals HH0.out rfl x.vals_one ed_info rfl (.tmp 8) (.tmp 22) rfl rfl rfl (fun w4 h4 t4 => ?_)
        have H4 := Lib.hid h4
        have t4' := HB0.out.turn.trans t4 (fun q hq e => by have := HE0.out; omega)
        have T4 := Lib.hid (HT.out.trans t4' (fun _ _ => id))
        have HCV4 := Lib.hid (HCV.out.turn t4' (fun _ _ => id))
        clear h4 t4 t4'
        go_wp2_with (with_reducible (show wpList _ _ _ (Oper.mk (some 25) (.load 28 (.tmp 8)) _ _ _ _ :: _) _ _); refine still ?_)
        refine wpList_load_mid rfl 28 (.tmp 8) rfl B 0 rfl x.vals _ (range_of H4.out) Try.underlying28 rfl ed_info ?_
        go_wp2_with fail
        refine (one_any w4 _ c x HCV4.out (by have := HLC.out; have := HB.out; omega) HKC.out).mono ?_
        rintro r w5 ⟨v5, rfl, hv5, t5, _⟩
        have HV5 := Lib.hid hv5
        have T5 := Lib.hid (T4.out.trans t5 (fun _ _ => id))
        clear hv5 t5
        obtain ⟨d, hd⟩ : ∃ d, (oneE c x).2 = d := ⟨_, rfl⟩
        rw [hd] at HA2 ⊢
        have HD := Lib.hid hd
        clear hd
        by_cases h0 : d = 0
        · have q0 : (d != 0) = false := by simpa using h0
          have hA := HA2.out
          rw [if_pos h0] at hA
          have HA3 := Lib.hid hA
          have hkd := oneE_ok HKC.out HXO.out (show oneE c x = ((oneE c x).1, (oneE c x).2) from rfl)
          have hld := oneE_len (l := c) (x := x)
          have HKD := Lib.hid hkd
          have HLD := Lib.hid (show (oneE c x).1.length ≤ l.length + (k + 1) by have := HLC.out; omega)
          clear hA h0 hkd hld
          go_wp2_with fail
          go_roundw
          case rel => exact ⟨k + 1, _, by omega, by go_num, HV5.out, HKD.out, HLD.out, HA3.out, T5.out⟩
          case measure => simp [intOf]; omega
        · have q0 : (d != 0) = true := by simpa using h0
          have hA := HA2.out
          rw [if_neg h0] at hA
          have HA3 := Lib.hid (HA.out.trans hA)
          clear hA h0
          go_wp2_with fail
          go_ret3
          refine ⟨_, by rw [HA3.out]; rfl, by rw [HA3.out]; exact .inl ⟨rfl, rfl⟩, T5.out⟩
      · have hke : k = n := by omega
        subst hke
        have HA3 := Lib.hid (show applyE l xs = (c, 0, 0) by rw [HA.out, HAP.out, List.drop_of_length_le (by rw [HN.out]; omega)]; rfl)
        go_wp2_with fail
        go_ret3
        refine ⟨_, by rw [HA3.out]; rfl, by rw [HA3.out]; exact HCV.out, HT.out⟩
set_option maxHeartbeats 4000000 in
theorem rapply_any (w : World) (v u : Value) (l : List El) (xs : List Ed) (hv : RowV w v l) (hu : EdV w u xs) (hb : l.length + xs.length ≤ 900) (hk : KOk l) (hx : ∀ x ∈ xs, EdOk x) : Calls Try.prog 15 #[v, u] w (AppP w (applyE l xs)) := by
  obtain ⟨la, lc, rfl⟩ := hu.form
  obtain ⟨n, hn⟩ : ∃ n, xs.length = n := ⟨_, rfl⟩
  simp only [hn] at hu hb ⊢
  have hn9 : n ≤ 900 := by omega
  have HV := Lib.hid hv
  have HU := Lib.hid hu
  have HN := Lib.hid hn
  have HB := Lib.hid hb
  have HK := Lib.hid hk
  have HX := Lib.hid hx
  clear hv hu hn hb hk hx
  go_enter Try.func15, Try.ntmps15
  go_wp2_with fail
  refine (rrises_any w v l HV.out (by have := HB.out; omega)).mono ?_
  rintro r w1 ⟨rfl, t1⟩
  have HV1 := Lib.hid (HV.out.turn t1 (fun _ _ => id))
  have T1 := Lib.hid t1
  clear t1
  cases hrs : risesB l
  · have HA := Lib.hid (show applyE l xs = ([], 0, 7) by unfold applyE; rw [if_pos hrs])
    clear hrs
    go_wp2_with fail
    go_ret3
    refine ⟨_, by rw [HA.out]; rfl, by rw [HA.out]; exact .inl ⟨rfl, rfl⟩, T1.out⟩
  · have HA := Lib.hid (show applyE l xs = applyFrom l xs 0 by unfold applyE; rw [if_neg (by simp [hrs])])
    clear hrs
    have HV2 := HV1
    have T2 := T1
    go_wp2_with fail
    go_loopw [0, 7] (fun cv iv wr => ∃ (k : Nat) (c : List El), k ≤ n ∧ iv = .int .i64 (k : Int) ∧ RowV wr cv c ∧ KOk c ∧ c.length ≤ l.length + k ∧ applyFrom l xs 0 = applyFrom c (xs.drop k) k ∧ Turn (fun _ => False) w wr) (fun _ iv _ => n - (intOf iv).toNat)
    case atStart => exact ⟨0, l, Nat.zero_le _, rfl, HV2.out, HK.out, Nat.le_refl _, rfl, T2.out⟩
    case round =>
      obtain ⟨k, c, hkn, rfl, hcv, hkc, hlc, hap, htr⟩ := hrel
      have HCV := Lib.hid hcv
      have HKC := Lib.hid hkc
      have HLC := Lib.hid hlc
      have HAP := Lib.hid hap
      have HT := Lib.hid htr
      clear hcv hkc hlc hap htr
      by_cases hlt : k < n
      · have gi : (0 : Int) ≤ (k : Int) ∧ (k : Int) < (n : Int) := by omega
        have dk : decide ((k : Int) < (n : Int)) = true := decide_eq_true (by omega)
        obtain ⟨g, o, rfl, hc, hs⟩ := (HU.out.turn HT.out (fun _ _ => id)).one HN.out k hlt
        have hxo := HX.out (xs.getD k ed0) (getD_mem_ed (by rw [HN.out]; exact hlt))
        have hdr := drop_cons_ed xs k (by rw [HN.out]; exact hlt)
        obtain ⟨x, hx⟩ : ∃ x, xs.getD k ed0 = x := ⟨_, rfl⟩
        rw [hx] at hs hxo hdr
        have hap2 : applyFrom l xs 0 = if (oneE c x).2 = 0 then applyFrom (oneE c x).1 (xs.drop (k + 1)) (k + 1) else ([], k, (oneE c x).2) := by rw [HAP.out, hdr]; rfl
        have HS := Lib.hid hs
        have HXO := Lib.hid hxo
        have HA2 := Lib.hid hap2
        clear hs hxo hdr hap2 hx hc
        have T4 := HT
        go_wp2_with (with_reducible (show wpList _ _ _ (Oper.mk (some 24) (.load 28 (.tmp 23)) _ _ _ _ :: _) _ _); refine still ?_)
        refine wpList_load_mid rfl 28 (.tmp 23) rfl g (o + k * 16) rfl x.vals _ HS.out Try.underlying28 rfl ed_info ?_
        go_wp2_with fail
        refine (rone_any wr _ c x HCV.out (by have := HLC.out; have := HB.out; omega) HKC.out).mono ?_
        rintro r w5 ⟨v5, rfl, hv5, t5, _⟩
        have HV5 := Lib.hid hv5
        have T5 := Lib.hid (T4.out.trans t5 (fun _ _ => id))
        clear hv5 t5
        obtain ⟨d, hd⟩ : ∃ d, (oneE c x).2 = d := ⟨_, rfl⟩
        rw [hd] at HA2 ⊢
        have HD := Lib.hid hd
        clear hd
        by_cases h0 : d = 0
        · have q0 : (d != 0) = false := by simpa using h0
          have hA := HA2.out
          rw [if_pos h0] at hA
          have HA3 := Lib.hid hA
          have hkd := oneE_ok HKC.out HXO.out (show oneE c x = ((oneE c x).1, (oneE c x).2) from rfl)
          have hld := oneE_len (l := c) (x := x)
          have HKD := Lib.hid hkd
          have HLD := Lib.hid (show (oneE c x).1.length ≤ l.length + (k + 1) by have := HLC.out; omega)
          clear hA h0 hkd hld
          go_wp2_with fail
          go_roundw
          case rel => exact ⟨k + 1, _, by omega, by go_num, HV5.out, HKD.out, HLD.out, HA3.out, T5.out⟩
          case measure => simp [intOf]; omega
        · have q0 : (d != 0) = true := by simpa using h0
          have hA := HA2.out
          rw [if_neg h0] at hA
          have HA3 := Lib.hid (HA.out.trans hA)
          clear hA h0
          go_wp2_with fail
          go_ret3
          refine ⟨_, by rw [HA3.out]; rfl, by rw [HA3.out]; exact .inl ⟨rfl, rfl⟩, T5.out⟩
      · have hke : k = n := by omega
        subst hke
        have HA3 := Lib.hid (show applyE l xs = (c, 0, 0) by rw [HA.out, HAP.out, List.drop_of_length_le (by rw [HN.out]; omega)]; rfl)
        go_wp2_with fail
        go_ret3
        refine ⟨_, by rw [HA3.out]; rfl, by rw [HA3.out]; exact HCV.out, HT.out⟩

end Go.Proofs.Ytbokdgcdkmnldaa
