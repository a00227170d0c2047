/- Own contracts: edits: a chart that rises. No statement is proved here. -/
import Derived.Test.YtbokdgcdkmnldaaEk
namespace Go.Proofs.Ytbokdgcdkmnldaa
set_option maxRecDepth 100000
open Go.RowKit
set_option linter.unusedVariables false
set_option linter.unusedSimpArgs false

theorem ex_id {w : World} {B : Nat} {x : El} {E : Int} (h : w.heap[B]? = some (.cells (x.vals.set 0 (.int .i64 E)).toArray 24 (0, 0))) : ∃ y : El, w.heap[B]? = some (.cells y.vals.toArray 24 (0, 0)) ∧ y.kind = x.kind := ⟨{ x with id := E }, h, rfl⟩
theorem ex_par {w : World} {B : Nat} {x : El} {E : Int} (h : w.heap[B]? = some (.cells (x.vals.set 2 (.int .i64 E)).toArray 24 (0, 0))) : ∃ y : El, w.heap[B]? = some (.cells y.vals.toArray 24 (0, 0)) ∧ y.kind = x.kind := ⟨{ x with par := E }, h, rfl⟩
/-- Some chart, rising. -/
def RisP (w : World) (n : Nat) (e : Ending) (w' : World) : Prop := ∃ v c, e = .returned v ∧ RowV w' v c ∧ Rises c ∧ KOk c ∧ c.length ≤ n ∧ Turn (fun _ => False) w w' ∧ (∀ q, v.ownBlock = some q → w.heap.size ≤ q) ∧ Ty24 w' v
theorem newEls_far {w w' : World} {l : List El} {e : Ending} (h : NewEls w l e w') : ∃ v, e = .returned v ∧ RowV w' v l ∧ Turn (fun _ => False) w w' ∧ ∀ q, v.ownBlock = some q → w.heap.size ≤ q := by
  obtain ⟨v, h1, h2, h3⟩ := h
  exact ⟨v, h1, own_rowV h2, h3, fun q hq => (h2.lt q hq).1⟩
set_option maxHeartbeats 4000000 in
theorem rising_any (w : World) (v : Value) (l : List El) (near : Bool) (hv : RowV w v l) (hb : l.length ≤ 30) (hk : KOk l) : Calls Try.prog 9 #[v, .bool near] w (RisP w l.length) := by
  obtain ⟨la, lc, rfl⟩ := hv.form
  obtain ⟨n, hn⟩ : ∃ n, l.length = n := ⟨_, rfl⟩
  simp only [hn] at hv hb ⊢
  have HV := Lib.hid hv
  have HN := Lib.hid hn
  have HK := Lib.hid hk
  clear hv hn hk
  go_enter Try.func9, Try.ntmps9
  go_wp2_with fail
  go_loopw [5, 6] (fun cv iv wr => ∃ (k : Nat) (c : List El), k ≤ n ∧ iv = .int .i64 (k : Int) ∧ RowV wr cv c ∧ Rises c ∧ KOk c ∧ c.length ≤ k ∧ Turn (fun _ => False) w wr ∧ (∀ q, cv.ownBlock = some q → w.heap.size ≤ q) ∧ Ty24 wr cv) (fun _ iv _ => n - (intOf iv).toNat)
  case atStart => exact ⟨0, [], Nat.zero_le _, rfl, .inl ⟨rfl, rfl⟩, Rises.nil, fun y hy => (by cases hy), Nat.le_refl _, Turn.refl _ _, fun q h => (by cases h), ty24_nil _⟩
  case round =>
    obtain ⟨k, c, hkn, rfl, hcv, hrc, hkc, hlc, htr, hfar, hty⟩ := hrel
    have HFR := Lib.hid hfar
    have HTY := Lib.hid hty
    clear hfar hty
    have HCV := Lib.hid hcv
    have HRC := Lib.hid hrc
    have HKC := Lib.hid hkc
    have HLC := Lib.hid hlc
    have HT := Lib.hid htr
    clear hcv hrc hkc hlc htr
    by_cases hlt : k < n
    · have gi : (0 : Int) ≤ (k : Int) ∧ (k : Int) < (n : Int) := by omega
      have dk : decide ((k : Int) < (n : Int)) = true := decide_eq_true (by omega)
      obtain ⟨g, o, rfl, hc, hs⟩ := (HV.out.turn HT.out (fun _ _ => id)).one HN.out k hlt
      have hxk := HK.out (l.getD k el0) (getD_mem (by rw [HN.out]; exact hlt))
      obtain ⟨x, hx⟩ : ∃ x, l.getD k el0 = x := ⟨_, rfl⟩
      rw [hx] at hs hxk
      have HS := Lib.hid hs
      have HXK := Lib.hid hxk
      clear hs hxk hx hc
      obtain ⟨B, hB⟩ : ∃ Z, wr.heap.size = Z := ⟨_, rfl⟩
      obtain ⟨wz, hwz⟩ : ∃ wz, wr.alloc (.cells el0.vals.toArray 24) = wz := ⟨_, rfl⟩
      have hx0 : ∀ ev op, op.op = .alloc 24 → (execOp ev op).run Try.prog wr = .ok (.value (.pointer (some ⟨B, 0, none⟩))) wz := fun ev op ho => by rw [← hwz, ← hB]; exact exec_zero24 ev op ho _
      have hb0 := box_alloc wr 24 el0.vals
      rw [hwz] at hb0
      have hh0 := hb0.heap
      rw [hB] at hh0
      have HXX0 := Lib.hid hx0
      have HB0 := Lib.hid hb0
      have HH0 := Lib.hid hh0
      have HE0 := Lib.hid hB
      clear hb0 hB hwz hx0 hh0
      go_wp2_with (with_reducible (show wpList _ _ _ (Oper.mk (some 17) (.load 24 (.tmp 16)) _ _ _ _ :: _) _ _); refine still ?_)
      refine wpList_load_mid rfl 24 (.tmp 16) rfl g (o + k * 10) rfl x.vals _ HS.out Try.underlying24 rfl el_info ?_
      go_wp2_with (with_reducible (show wpList _ _ _ (Oper.mk (some 7) (.alloc 24) _ _ _ _ :: _) _ _); refine still ?_)
      refine list_exec rfl _ _ (HXX0.out _ _ rfl) ?_
      go_wp2_with (with_reducible (show wpList _ _ _ (Oper.mk none (.store 24 (.tmp 7) (.tmp 17)) _ _ _ _ :: _) _ _); refine still ?_)
      refine list_put wz B 24 el0.vals x.vals HH0.out rfl x.vals_one el_info rfl (.tmp 7) (.tmp 17) rfl rfl rfl (fun w4 h4 t4 => ?_)
      have H4 := Lib.hid h4
      have t4' := HB0.out.turn.trans t4 (fun q hq e => by have := HE0.out; omega)
      have T4 := Lib.hid (HT.out.trans t4' (fun _ _ => id))
      have HCV4 := Lib.hid (HCV.out.turn t4' (fun _ _ => id))
      have HBW := Lib.hid (show wr.heap.size ≤ B by have := HE0.out; omega)
      have F4 := Lib.hid t4'
      clear t4 t4' h4
      cases near
      · go_wp2_with (with_reducible (show wpList _ _ _ (Oper.mk (some 33) (.load 24 (.tmp 7)) _ _ _ _ :: _) _ _); refine still ?_)
        refine wpList_load_mid rfl 24 (.tmp 7) rfl B 0 rfl x.vals _ (range_of H4.out) Try.underlying24 rfl el_info ?_
        go_wp2_with fail
        refine (rput_any w4 _ c x HCV4.out HRC.out (by have := HLC.out; omega)).mono ?_
        rintro r w7 hne
        obtain ⟨v7', hv7', _, _, hty7⟩ := newEls_row hne
        obtain ⟨v7, rfl, hv7, t7, hf7⟩ := newEls_far hne
        injection hv7' with hv7'
        rw [← hv7'] at hty7
        have HTY7 := Lib.hid hty7
        clear hv7' hty7
        have HF7 := Lib.hid (show ∀ q, v7.ownBlock = some q → w.heap.size ≤ q from fun q hq => by have := hf7 q hq; have := T4.out.size; omega)
        clear hf7
        have HV7 := Lib.hid hv7
        have T7 := Lib.hid (T4.out.trans t7 (fun _ _ => id))
        have HK7 := Lib.hid (putE_ok HKC.out (show 0 ≤ x.kind ∧ x.kind ≤ 255 from HXK.out))
        clear hv7 t7 hne
        go_wp2_with fail
        go_roundw
        case rel => exact ⟨k + 1, _, by omega, by go_num, HV7.out, rises_putE HRC.out _, HK7.out, by have := putE_len c x; have := HLC.out; omega, T7.out, HF7.out, HTY7.out⟩
        case measure => simp [intOf]; omega
      · have d0 : w4.cell? ⟨B, 0, none⟩ = some (.int .i64 x.id) := by rw [cell_of_row w4 B 0 _ 24 (0, 0) H4.out]; rfl
        go_wp2_with (with_reducible (show wpList _ _ _ (Oper.mk none (.store 3 (.tmp 25) (.tmp 24)) _ _ _ _ :: _) _ _); refine still ?_)
        refine list_set1 w4 B 24 3 x.vals 0 _ H4.out (by rw [El.vlen]; decide) (by rfl) (by rfl) (by kernel_rfl) rfl (.tmp 25) (.tmp 24) rfl rfl rfl (fun w5 h5 t5 => ?_)
        obtain ⟨y, h5', hy⟩ := ex_id h5
        have H5 := Lib.hid h5'
        have HY := Lib.hid hy
        have T5 := Lib.hid (T4.out.trans t5 (fun q hq e => by have := HBW.out; have := HT.out.size; omega))
        have F5 := Lib.hid (F4.out.trans t5 (fun q hq e => by have := HBW.out; omega))
        have HCV5 := Lib.hid (HCV.out.turn F5.out (fun _ _ => id))
        clear h5 h5' hy t5 d0
        have d2 : w5.cell? ⟨B, 2, none⟩ = some (.int .i64 y.par) := by rw [cell_of_row w5 B 2 _ 24 (0, 0) H5.out]; rfl
        go_wp2_with (with_reducible (show wpList _ _ _ (Oper.mk none (.store 3 (.tmp 31) (.tmp 30)) _ _ _ _ :: _) _ _); refine still ?_)
        refine list_set1 w5 B 24 3 y.vals 2 _ H5.out (by rw [El.vlen]; decide) (by rfl) (by rfl) (by kernel_rfl) rfl (.tmp 31) (.tmp 30) rfl rfl rfl (fun w6 h6 t6 => ?_)
        obtain ⟨z, h6', hz⟩ := ex_par h6
        have H6 := Lib.hid h6'
        have HZ := Lib.hid (show 0 ≤ z.kind ∧ z.kind ≤ 255 by rw [hz, HY.out]; exact HXK.out)
        have T6 := Lib.hid (T5.out.trans t6 (fun q hq e => by have := HBW.out; have := HT.out.size; omega))
        have HCV6 := Lib.hid (HCV.out.turn (F5.out.trans t6 (fun q hq e => by have := HBW.out; omega)) (fun _ _ => id))
        clear h6 h6' hz t6 d2
        go_wp2_with (with_reducible (show wpList _ _ _ (Oper.mk (some 33) (.load 24 (.tmp 7)) _ _ _ _ :: _) _ _); refine still ?_)
        refine wpList_load_mid rfl 24 (.tmp 7) rfl B 0 rfl z.vals _ (range_of H6.out) Try.underlying24 rfl el_info ?_
        go_wp2_with fail
        refine (rput_any w6 _ c z HCV6.out HRC.out (by have := HLC.out; omega)).mono ?_
        rintro r w7 hne
        obtain ⟨v7', hv7', _, _, hty7⟩ := newEls_row hne
        obtain ⟨v7, rfl, hv7, t7, hf7⟩ := newEls_far hne
        injection hv7' with hv7'
        rw [← hv7'] at hty7
        have HTY7 := Lib.hid hty7
        clear hv7' hty7
        have HF7 := Lib.hid (show ∀ q, v7.ownBlock = some q → w.heap.size ≤ q from fun q hq => by have := hf7 q hq; have := T6.out.size; omega)
        clear hf7
        have HV7 := Lib.hid hv7
        have T7 := Lib.hid (T6.out.trans t7 (fun _ _ => id))
        have HK7 := Lib.hid (putE_ok HKC.out (show 0 ≤ z.kind ∧ z.kind ≤ 255 from HZ.out))
        clear hv7 t7 hne
        go_wp2_with fail
        go_roundw
        case rel => exact ⟨k + 1, _, by omega, by go_num, HV7.out, rises_putE HRC.out _, HK7.out, by have := putE_len c z; have := HLC.out; omega, T7.out, HF7.out, HTY7.out⟩
        case measure => simp [intOf]; omega
    · have hke : k = n := by omega
      subst hke
      go_wp2_with fail
      go_ret
      exact ⟨_, c, rfl, HCV.out, HRC.out, HKC.out, HLC.out, HT.out, HFR.out, HTY.out⟩

end Go.Proofs.Ytbokdgcdkmnldaa
