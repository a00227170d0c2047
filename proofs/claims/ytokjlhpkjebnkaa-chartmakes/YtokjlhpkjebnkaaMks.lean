/- Own contracts: an element is its number and its fields. No statement is proved here. -/
import Derived.Test.YtokjlhpkjebnkaaFt
namespace Go.Proofs.Ytokjlhpkjebnkaa
set_option maxRecDepth 100000
open Go.RowKit
set_option linter.unusedVariables false
set_option linter.unusedSimpArgs false


/-- An element put together so far. -/
def mkE (o : El) : Nat → El
  | 0 => El.at o.id
  | k + 1 => setV (mkE o k) (k : Int) (getN o (k : Int)) (getS o (k : Int))
theorem mkE_all (o : El) (hk : 0 ≤ o.kind ∧ o.kind ≤ 255) : mkE o 9 = o := by
  have h : o.kind % 256 = o.kind := by omega
  obtain ⟨a, b, c, d, e, f, g, h1, i, j⟩ := o
  simp only at h
  simp [mkE, setV, getN, getS, El.at, h]
theorem mkE_kind (o : El) : ∀ k, 0 ≤ (mkE o k).kind ∧ (mkE o k).kind ≤ 255
  | 0 => by simp [mkE, El.at]
  | k + 1 => setV_kind _ (mkE_kind o k) _ _ _
theorem fits_get (o : El) (hk : 0 ≤ o.kind ∧ o.kind ≤ 255) (k : Nat) (h : k < 9) : fitsB (k : Int) (getN o (k : Int)) (getS o (k : Int)) = true := by
  have h2 : o.kind % 256 = o.kind := by omega
  rcases (by omega : k = 0 ∨ k = 1 ∨ k = 2 ∨ k = 3 ∨ k = 4 ∨ k = 5 ∨ k = 6 ∨ k = 7 ∨ k = 8) with rfl | rfl | rfl | rfl | rfl | rfl | rfl | rfl | rfl <;> simp [fitsB, getN, getS, setV, h2]
set_option maxHeartbeats 8000000 in
theorem makes_law (w : World) (o : El) (ho : o.Ok) : Calls Try.prog 6 #[.agg o.vals.toArray] w fun r w' => r = .returned (.bool true) ∧ Turn (fun _ => False) w w' := by
  have hkd := ho.kind
  have hbx := box_alloc w 24 o.vals
  obtain ⟨X, hX⟩ : ∃ X, w.heap.size = X := ⟨_, rfl⟩
  obtain ⟨w1, hw1⟩ : ∃ w1, w.alloc (.cells o.vals.toArray 24) = w1 := ⟨_, rfl⟩
  rw [hw1] at hbx
  have hxh := hbx.heap
  rw [hX] at hxh
  have c0 := hbx.cell 0 _ o.v0
  have HXH := Lib.hid hxh
  have HT1 := Lib.hid hbx.turn
  have HS1 := Lib.hid (show w.heap.size < w1.heap.size by have := hbx.size; omega)
  have HKD := Lib.hid hkd
  have HXE := Lib.hid hX
  rw [hX] at c0
  clear hbx hxh ho hkd
  go_enter Try.func6, Try.ntmps6
  go_wp2_with (with_reducible (show wpList _ _ _ (Oper.mk (some 8) _ _ _ _ _ :: _) _ _); refine still ?_)
  refine list_exec rfl _ _ (exec_build_at _ _ (.tmp 7) o.id rfl rfl _) ?_
  have hba := box_alloc w1 24 el0.vals
  obtain ⟨Ba, hBa⟩ : ∃ B, w1.heap.size = B := ⟨_, rfl⟩
  obtain ⟨wza, hwa⟩ : ∃ wz, w1.alloc (.cells (el0.vals).toArray 24) = wz := ⟨_, rfl⟩
  have hxa : ∀ ev op, op.op = .alloc 24 → (execOp ev op).run Try.prog w1 = .ok (.value (.pointer (some ⟨Ba, 0, none⟩))) wza := fun ev op ho => by rw [← hwa, ← hBa]; exact exec_zero24 ev op ho _
  rw [hwa] at hba
  have hha := hba.heap
  rw [hBa] at hha
  have HBa := Lib.hid hba
  have HSa := Lib.hid hBa
  have HXa := Lib.hid hxa
  have HH0a := Lib.hid hha
  clear hba hBa hwa hxa hha
  go_wp2_with (with_reducible (show wpList _ _ _ (Oper.mk (some 3) (.alloc 24) _ _ _ _ :: _) _ _); refine still ?_)
  refine list_exec rfl _ _ (HXa.out _ _ rfl) ?_
  go_wp2_with (with_reducible (show wpList _ _ _ (Oper.mk none (.store 24 (.tmp 3) (.tmp 8)) _ _ _ _ :: _) _ _); refine still ?_)
  refine list_put wza Ba 24 (el0.vals) ((El.at o.id).vals) HH0a.out rfl (El.vals_one _) el_info rfl (.tmp 3) (.tmp 8) rfl rfl rfl (fun wa hh tt => ?_)
  have HHa := Lib.hid hh
  have TTa := Lib.hid (HBa.out.turn.trans tt (fun q hq e => by have := HSa.out; omega))
  have SZa := Lib.hid (show w1.heap.size = Ba ∧ Ba < wa.heap.size from ⟨HSa.out, (Array.getElem?_eq_some_iff.1 hh).1⟩)
  clear hh tt
  have HTa := Lib.hid (HT1.out.trans TTa.out (fun _ _ => id))
  have HXa := Lib.hid ((TTa.out.block X (Array.getElem?_eq_some_iff.1 HXH.out).1 id).trans HXH.out)
  clear c0 hX hw1
  go_wp2_with fail
  go_loopw [4] (fun iv wr => ∃ k : Nat, k ≤ 9 ∧ iv = .int .i64 (k : Int) ∧ wr.heap[Ba]? = some (.cells (mkE o k).vals.toArray 24 (0, 0)) ∧ wr.heap[X]? = some (.cells o.vals.toArray 24 (0, 0)) ∧ Turn (fun _ => False) w wr) (fun iv _ => 9 - (intOf iv).toNat)
  case atStart => exact ⟨0, Nat.zero_le _, rfl, HHa.out, HXa.out, HTa.out⟩
  case round =>
    obtain ⟨k, hk, rfl, hh, hxx, htr⟩ := hrel
    have HH := Lib.hid hh
    have HXX := Lib.hid hxx
    have HTR := Lib.hid htr
    clear hh hxx htr
    by_cases hlt : k < 9
    · have d1 : decide ((k : Int) < 9) = true := decide_eq_true (by omega)
      go_wp2_with (with_reducible (show wpList _ _ _ (Oper.mk (some 13) (.load 24 (.tmp 1)) _ _ _ _ :: _) _ _); refine still ?_)
      refine wpList_load_mid rfl 24 (.tmp 1) rfl X 0 rfl o.vals _ (range_of HXX.out) Try.underlying24 rfl el_info ?_
      go_wp2_with fail
      refine (get_any wr o (k : Int) HKD.out).mono ?_
      rintro r w2 ⟨rfl, t2⟩
      have U2 := Lib.hid t2
      clear t2
      have hbb := box_alloc w2 37 (vl 0 e0)
      obtain ⟨Bb, hBb⟩ : ∃ B, w2.heap.size = B := ⟨_, rfl⟩
      obtain ⟨wzb, hwb⟩ : ∃ wz, w2.alloc (.cells ((vl 0 e0)).toArray 37) = wz := ⟨_, rfl⟩
      have hxb : ∀ ev op, op.op = .alloc 37 → (execOp ev op).run Try.prog w2 = .ok (.value (.pointer (some ⟨Bb, 0, none⟩))) wzb := fun ev op ho => by rw [← hwb, ← hBb]; exact exec_zero37 ev op ho _
      rw [hwb] at hbb
      have hhb := hbb.heap
      rw [hBb] at hhb
      have HBb := Lib.hid hbb
      have HSb := Lib.hid hBb
      have HXb := Lib.hid hxb
      have HH0b := Lib.hid hhb
      clear hbb hBb hwb hxb hhb
      go_wp2_with (with_reducible (show wpList _ _ _ (Oper.mk (some 5) (.alloc 37) _ _ _ _ :: _) _ _); refine still ?_)
      refine list_exec rfl _ _ (HXb.out _ _ rfl) ?_
      go_wp2_with (with_reducible (show wpList _ _ _ (Oper.mk none (.store 37 (.tmp 5) (.tmp 15)) _ _ _ _ :: _) _ _); refine still ?_)
      refine list_put wzb Bb 37 ((vl 0 e0)) (vl (getN o (k : Int)) (getS o (k : Int))) HH0b.out rfl (vl_one _ _) vl_info rfl (.tmp 5) (.tmp 15) rfl rfl rfl (fun wb hh tt => ?_)
      have HHb := Lib.hid hh
      have TTb := Lib.hid (HBb.out.turn.trans tt (fun q hq e => by have := HSb.out; omega))
      have SZb := Lib.hid (show w2.heap.size = Bb ∧ Bb < wb.heap.size from ⟨HSb.out, (Array.getElem?_eq_some_iff.1 hh).1⟩)
      clear hh tt
      go_wp2_with (with_reducible (show wpList _ _ _ (Oper.mk (some 17) (.load 37 (.tmp 5)) _ _ _ _ :: _) _ _); refine still ?_)
      refine wpList_load_mid rfl 37 (.tmp 5) rfl Bb 0 rfl (vl (getN o (k : Int)) (getS o (k : Int))) _ (range_of HHb.out) Try.underlying37 rfl vl_info ?_
      go_wp2_with fail
      refine (fits_any wb (k : Int) (getN o (k : Int)) (getS o (k : Int))).mono ?_
      rintro r w4 ⟨rfl, t4⟩
      rw [fits_get o HKD.out k hlt]
      have U4 := Lib.hid ((U2.out.trans TTb.out (fun _ _ => id)).trans t4 (fun _ _ => id))
      have HB4 := Lib.hid (rangeAt_turn (range_of HHb.out) t4 id)
      have HH4 := Lib.hid ((U4.out.block Ba (Array.getElem?_eq_some_iff.1 HH.out).1 id).trans HH.out)
      have HX4 := Lib.hid ((U4.out.block X (Array.getElem?_eq_some_iff.1 HXX.out).1 id).trans HXX.out)
      clear t4
      go_wp2_with (with_reducible (show wpList _ _ _ (Oper.mk (some 20) (.load 24 (.tmp 3)) _ _ _ _ :: _) _ _); refine still ?_)
      refine wpList_load_mid rfl 24 (.tmp 3) rfl Ba 0 rfl (mkE o k).vals _ (range_of HH4.out) Try.underlying24 rfl el_info ?_
      go_wp2_with (with_reducible (show wpList _ _ _ (Oper.mk (some 22) (.load 37 (.tmp 5)) _ _ _ _ :: _) _ _); refine still ?_)
      refine wpList_load_mid rfl 37 (.tmp 5) rfl Bb 0 rfl (vl (getN o (k : Int)) (getS o (k : Int))) _ HB4.out Try.underlying37 rfl vl_info ?_
      go_wp2_with fail
      refine (with_any w4 (mkE o k) (k : Int) (getN o (k : Int)) (getS o (k : Int))).mono ?_
      rintro r w5 ⟨rfl, t5⟩
      have U5 := Lib.hid (U4.out.trans t5 (fun _ _ => id))
      have HH5 := Lib.hid ((t5.block Ba (Array.getElem?_eq_some_iff.1 HH4.out).1 id).trans HH4.out)
      have HX5 := Lib.hid ((t5.block X (Array.getElem?_eq_some_iff.1 HX4.out).1 id).trans HX4.out)
      clear t5
      go_wp2_with (with_reducible (show wpList _ _ _ (Oper.mk none (.store 24 (.tmp 3) (.tmp 23)) _ _ _ _ :: _) _ _); refine still ?_)
      refine list_put w5 Ba 24 (mkE o k).vals (mkE o (k + 1)).vals HH5.out rfl (El.vals_one _) el_info rfl (.tmp 3) (.tmp 23) rfl rfl rfl (fun w6 h6 t6 => ?_)
      have H6 := Lib.hid h6
      have T6 := Lib.hid ((HTR.out.trans U5.out (fun _ _ => id)).trans t6 (fun q hq e => by have := HS1.out; have := SZa.out; omega))
      have HX6 := Lib.hid ((t6.block X (Array.getElem?_eq_some_iff.1 HX5.out).1 (by have := HS1.out; have := SZa.out; have := HXE.out; omega)).trans HX5.out)
      clear h6 t6 d1
      go_wp2_with fail
      go_roundw
      case rel => exact ⟨k + 1, by omega, by go_num, H6.out, HX6.out, T6.out⟩
      case measure => simp [intOf]; omega
    · have hke : k = 9 := by omega
      subst hke
      have hme := mkE_all o HKD.out
      have HME := Lib.hid hme
      clear hme
      have HH9 := Lib.hid (show wr.heap[Ba]? = some (.cells o.vals.toArray 24 (0, 0)) from by have := HH.out; rwa [HME.out] at this)
      go_wp2_with fail
      refine (awake09 wr).mono ?_
      rintro r w7 ⟨rfl, t7⟩
      have T7 := Lib.hid (HTR.out.trans t7 (fun _ _ => id))
      have HA7 := Lib.hid (rangeAt_turn (range_of HH9.out) t7 id)
      have HE7 := Lib.hid (rangeAt_turn (range_of HXX.out) t7 id)
      clear t7
      go_wp2_with (with_reducible (show wpList _ _ _ (Oper.mk (some 26) (.load 24 (.tmp 3)) _ _ _ _ :: _) _ _); refine still ?_)
      refine wpList_exec_want (by rfl) _ _ (exec_load_mid _ _ 24 (.tmp 3) rfl Ba 0 rfl o.vals _ _ HA7.out Try.underlying24 rfl el_info) ?_
      go_wp2_with (with_reducible (show wpList _ _ _ (Oper.mk (some 27) (.load 24 (.tmp 1)) _ _ _ _ :: _) _ _); refine still ?_)
      refine wpList_exec_want (by rfl) _ _ (exec_load_mid _ _ 24 (.tmp 1) rfl X 0 rfl o.vals _ _ HE7.out Try.underlying24 rfl el_info) ?_
      go_wp2_with (with_reducible (show wpList _ _ _ (Oper.mk (some 28) _ _ _ _ _ :: _) _ _); refine still ?_)
      refine wpList_exec_want (by rfl) (.bool true) _ (exec_eql_same _ _ rfl o _ rfl rfl) ?_
      go_wp2_with fail
      go_ret
      exact ⟨rfl, T7.out⟩
end Go.Proofs.Ytokjlhpkjebnkaa
