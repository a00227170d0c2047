/- Own contracts: each field of an element. No statement is proved here. -/
import Derived.Test.YtokjlhpkjebnkaaFt
import Derived.Deep.CutRange
namespace Go.Proofs.Ytokjlhpkjebnkaa
set_option maxRecDepth 100000
open Go.RowKit
set_option linter.unusedVariables false
set_option linter.unusedSimpArgs false


theorem e0_list : e0.toList = [] := by
  show ByteArray.empty.toList = []
  first | rfl | (rw [ByteArray.toList_eq]; rfl) | rw [ByteArray.toList_eq] | simp
theorem exec_neq_vlsame (ev : Operand → Value) (op : Oper) {a b : Operand} (ho : op.op = .binOp .neq 37 a b 37) (n : Int) (s : ByteArray) (w : World) (h1 : ev a = .agg (vl n s).toArray) (h2 : ev b = .agg (vl n s).toArray) : (execOp ev op).run Try.prog w = .ok (.value (.bool false)) w := by
  have hq := exec_neq_vl ev op ho n n s s w h1 h2
  rwa [decide_eq_true ⟨rfl, rfl⟩] at hq
theorem exec_eql_vlsame (ev : Operand → Value) (op : Oper) {a b : Operand} (ho : op.op = .binOp .eql 37 a b 37) (n : Int) (s : ByteArray) (w : World) (h1 : ev a = .agg (vl n s).toArray) (h2 : ev b = .agg (vl n s).toArray) : (execOp ev op).run Try.prog w = .ok (.value (.bool true)) w := by
  have hq := exec_eql_vl ev op ho n n s s w h1 h2
  rwa [decide_eq_true ⟨rfl, rfl⟩] at hq

def txtF (f : Int) : Bool := decide (f = 3 ∨ (5 < f ∧ f < 9))
theorem fits_text {f n : Int} {s : ByteArray} (h : f = 3 ∨ f = 6 ∨ f = 7 ∨ f = 8) : fitsB f n s = decide (n = 0) := by
  rcases h with rfl | rfl | rfl | rfl <;> simp [fitsB, getN, getS, setV, eq_comm]
theorem fits_num {f n : Int} {s : ByteArray} (h : f = 1 ∨ f = 2 ∨ f = 4 ∨ f = 5) : fitsB f n s = decide (s = e0) := by
  rcases h with rfl | rfl | rfl | rfl <;> simp [fitsB, getN, getS, setV, eq_comm]
theorem fits_kind {n : Int} {s : ByteArray} : fitsB 0 n s = (decide (s = e0) && decide (0 ≤ n ∧ n < 256)) := by
  have : (n % 256 = n) ↔ (0 ≤ n ∧ n < 256) := by omega
  simp [fitsB, getN, getS, setV, this, eq_comm, Bool.and_comm]
theorem fits_out {f n : Int} {s : ByteArray} (h : f < 0 ∨ 8 < f) : fitsB f n s = false := by
  unfold fitsB
  rw [decide_eq_false (by omega)]
  rfl
theorem get_set (o : El) (f n : Int) (s : ByteArray) (k : Int) (h : k ≠ f) : getN (setV o f n s) k = getN o k ∧ getS (setV o f n s) k = getS o k := by
  unfold setV
  repeat' split
  all_goals (constructor <;> simp only [getN, getS] <;> repeat' split) <;> first | rfl | omega
theorem setV_id (o : El) (f n : Int) (s : ByteArray) : (setV o f n s).id = o.id := by
  unfold setV
  repeat' split
  all_goals rfl
/-- What a field is wanted to be. -/
def wantN (o : El) (f n : Int) (s : ByteArray) (k : Int) : Int := getN (setV o f n s) k
theorem get_same_out {o : El} {f n : Int} {s : ByteArray} (h : f < 0 ∨ 8 < f) : setV o f n s = o := by
  unfold setV
  rw [if_neg (by omega), if_neg (by omega), if_neg (by omega), if_neg (by omega), if_neg (by omega), if_neg (by omega), if_neg (by omega), if_neg (by omega), if_neg (by omega)]
theorem get_same_num {o : El} {f n : Int} {s : ByteArray} (h : f = 1 ∨ f = 2 ∨ f = 4 ∨ f = 5) : getN (setV o f n s) f = n ∧ getS (setV o f n s) f = e0 := by
  rcases h with rfl | rfl | rfl | rfl <;> exact ⟨rfl, rfl⟩
theorem get_same_text {o : El} {f n : Int} {s : ByteArray} (h : f = 3 ∨ f = 6 ∨ f = 7 ∨ f = 8) : getN (setV o f n s) f = 0 ∧ getS (setV o f n s) f = s := by
  rcases h with rfl | rfl | rfl | rfl <;> exact ⟨rfl, rfl⟩
theorem get_same_kind {o : El} {n : Int} {s : ByteArray} : getN (setV o 0 n s) 0 = n % 256 ∧ getS (setV o 0 n s) 0 = e0 := ⟨rfl, rfl⟩
set_option maxHeartbeats 16000000 in
theorem fields_law (w : World) (o : El) (f n : Int) (s : ByteArray) (ho : o.Ok) (hf : -9223372036854775808 ≤ f ∧ f < 9223372036854775808) (hn : I64 n) : Calls Try.prog 4 #[.agg o.vals.toArray, .int .i64 f, .agg (vl n s).toArray] w fun r w' => r = .returned (.bool true) ∧ Turn (fun _ => False) w w' := by
  have hkd := ho.kind
  have hbx := box_alloc w 24 o.vals
  obtain ⟨X, hX⟩ : ∃ X, w.heap.size = X := ⟨_, rfl⟩
  obtain ⟨w1, hw1⟩ : ∃ w1, w.alloc (.cells o.vals.toArray 24) = w1 := ⟨_, rfl⟩
  rw [hw1] at hbx
  have hby := box_alloc w1 37 (vl n s)
  obtain ⟨V, hV⟩ : ∃ V, w1.heap.size = V := ⟨_, rfl⟩
  obtain ⟨w2, hw2⟩ : ∃ w2, w1.alloc (.cells (vl n s).toArray 37) = w2 := ⟨_, rfl⟩
  rw [hw2] at hby
  have hVX : V = X + 1 := by rw [← hV, hbx.size, hX]
  have hxh : w2.heap[X]? = some (.cells o.vals.toArray 24 (0, 0)) := by rw [hby.turn.block X (by omega) id, ← hX]; exact hbx.heap
  have hvh : w2.heap[V]? = some (.cells (vl n s).toArray 37 (0, 0)) := by rw [← hV]; exact hby.heap
  have HXH := Lib.hid hxh
  have HVH := Lib.hid hvh
  have HT2 := Lib.hid (hbx.turn.trans hby.turn (fun _ _ => id))
  have HS := Lib.hid (show w.heap.size = X ∧ w2.heap.size = V + 1 ∧ V = X + 1 by have := hby.size; omega)
  have HKD := Lib.hid hkd
  have HN64 := Lib.hid hn
  obtain ⟨x, hx⟩ : ∃ x, setV o f n s = x := ⟨_, rfl⟩
  have HXV := Lib.hid hx
  have HKX := Lib.hid (hx ▸ setV_kind o hkd f n s)
  clear hbx hby hxh hvh ho hkd hVX hx hn
  go_enter Try.func4, Try.ntmps4
  go_wp2_with (with_reducible (show wpList _ _ _ (Oper.mk (some 12) (.load 24 (.tmp 3)) _ _ _ _ :: _) _ _); refine still ?_)
  refine wpList_load_mid rfl 24 (.tmp 3) rfl X 0 rfl o.vals _ (range_of HXH.out) Try.underlying24 rfl el_info ?_
  go_wp2_with (with_reducible (show wpList _ _ _ (Oper.mk (some 14) (.load 37 (.tmp 5)) _ _ _ _ :: _) _ _); refine still ?_)
  refine wpList_load_mid rfl 37 (.tmp 5) rfl V 0 rfl (vl n s) _ (range_of HVH.out) Try.underlying37 rfl vl_info ?_
  clear hw1 hw2 hX hV
  go_wp2_with fail
  refine (with_any w2 o f n s).mono ?_
  rintro r w3 ⟨rfl, t3⟩
  rw [HXV.out]
  have U3 := Lib.hid t3
  clear t3
  have hba := box_alloc w3 24 el0.vals
  obtain ⟨Ba, hBa⟩ : ∃ B, w3.heap.size = B := ⟨_, rfl⟩
  obtain ⟨wza, hwa⟩ : ∃ wz, w3.alloc (.cells (el0.vals).toArray 24) = wz := ⟨_, rfl⟩
  have hxa : ∀ ev op, op.op = .alloc 24 → (execOp ev op).run Try.prog w3 = .ok (.value (.pointer (some ⟨Ba, 0, none⟩))) wza := fun ev op ho => by rw [← hwa, ← hBa]; exact exec_zero24 ev op ho _
  rw [hwa] at hba
  have hha := hba.heap
  rw [hBa] at hha
  have HBa := Lib.hid hba
  have HSa := Lib.hid hBa
  have HXa := Lib.hid hxa
  have HH0a := Lib.hid hha
  clear hba hBa hwa hxa hha
  go_wp2_with (with_reducible (show wpList _ _ _ (Oper.mk (some 7) (.alloc 24) _ _ _ _ :: _) _ _); refine still ?_)
  refine list_exec rfl _ _ (HXa.out _ _ rfl) ?_
  go_wp2_with (with_reducible (show wpList _ _ _ (Oper.mk none (.store 24 (.tmp 7) (.tmp 15)) _ _ _ _ :: _) _ _); refine still ?_)
  refine list_put wza Ba 24 (el0.vals) (x.vals) HH0a.out rfl (El.vals_one _) el_info rfl (.tmp 7) (.tmp 15) rfl rfl rfl (fun wa hh tt => ?_)
  have HHa := Lib.hid hh
  have TTa := Lib.hid (HBa.out.turn.trans tt (fun q hq e => by have := HSa.out; omega))
  have SZa := Lib.hid (show w3.heap.size = Ba ∧ Ba < wa.heap.size from ⟨HSa.out, (Array.getElem?_eq_some_iff.1 hh).1⟩)
  clear hh tt
  have Ua := Lib.hid (U3.out.trans TTa.out (fun _ _ => id))
  have HXa := Lib.hid ((Ua.out.block X (Array.getElem?_eq_some_iff.1 HXH.out).1 id).trans HXH.out)
  have HVa := Lib.hid ((Ua.out.block V (Array.getElem?_eq_some_iff.1 HVH.out).1 id).trans HVH.out)
  have HTa := Lib.hid (HT2.out.trans Ua.out (fun _ _ => id))
  go_wp2_with fail
  go_loopw [8] (fun iv wr => ∃ k : Nat, k ≤ 11 ∧ iv = .int .i64 ((k : Int) - 1) ∧ wr.heap[Ba]? = some (.cells x.vals.toArray 24 (0, 0)) ∧ wr.heap[X]? = some (.cells o.vals.toArray 24 (0, 0)) ∧ wr.heap[V]? = some (.cells (vl n s).toArray 37 (0, 0)) ∧ Turn (fun _ => False) w wr) (fun iv _ => (10 - intOf iv).toNat)
  case atStart => exact ⟨0, by omega, rfl, HHa.out, HXa.out, HVa.out, HTa.out⟩
  case round =>
    obtain ⟨k, hk, rfl, hh, hxx, hvv, htr⟩ := hrel
    have HH := Lib.hid hh
    have HXX := Lib.hid hxx
    have HVV := Lib.hid hvv
    have HTR := Lib.hid htr
    clear hh hxx hvv htr
    obtain ⟨jx, hK⟩ : ∃ jx : Int, (k : Int) - 1 = jx := ⟨_, rfl⟩
    rw [hK]
    have hKb : -1 ≤ jx ∧ jx ≤ 10 := by omega
    have HKK := Lib.hid hK
    clear hK
    by_cases hlt : jx < 10
    · have d1 : decide (jx < 10) = true := decide_eq_true hlt
      go_wp2_with (with_reducible (show wpList _ _ _ (Oper.mk (some 20) (.load 24 (.tmp 3)) _ _ _ _ :: _) _ _); refine still ?_)
      refine wpList_load_mid rfl 24 (.tmp 3) rfl X 0 rfl o.vals _ (range_of HXX.out) Try.underlying24 rfl el_info ?_
      go_wp2_with fail
      refine (value_any wr o jx HKD.out).mono ?_
      rintro r w4 ⟨rfl, t4⟩
      have U4 := Lib.hid t4
      clear t4
      have hbb := box_alloc w4 37 (vl 0 e0)
      obtain ⟨Bb, hBb⟩ : ∃ B, w4.heap.size = B := ⟨_, rfl⟩
      obtain ⟨wzb, hwb⟩ : ∃ wz, w4.alloc (.cells ((vl 0 e0)).toArray 37) = wz := ⟨_, rfl⟩
      have hxb : ∀ ev op, op.op = .alloc 37 → (execOp ev op).run Try.prog w4 = .ok (.value (.pointer (some ⟨Bb, 0, none⟩))) wzb := fun ev op ho => by rw [← hwb, ← hBb]; exact exec_zero37 ev op ho _
      rw [hwb] at hbb
      have hhb := hbb.heap
      rw [hBb] at hhb
      have HBb := Lib.hid hbb
      have HSb := Lib.hid hBb
      have HXb := Lib.hid hxb
      have HH0b := Lib.hid hhb
      clear hbb hBb hwb hxb hhb
      go_wp2_with (with_reducible (show wpList _ _ _ (Oper.mk (some 9) (.alloc 37) _ _ _ _ :: _) _ _); refine still ?_)
      refine list_exec rfl _ _ (HXb.out _ _ rfl) ?_
      go_wp2_with (with_reducible (show wpList _ _ _ (Oper.mk none (.store 37 (.tmp 9) (.tmp 22)) _ _ _ _ :: _) _ _); refine still ?_)
      refine list_put wzb Bb 37 ((vl 0 e0)) (vl (getN o jx) (getS o jx)) HH0b.out rfl (vl_one _ _) vl_info rfl (.tmp 9) (.tmp 22) rfl rfl rfl (fun wb hh tt => ?_)
      have HHb := Lib.hid hh
      have TTb := Lib.hid (HBb.out.turn.trans tt (fun q hq e => by have := HSb.out; omega))
      have SZb := Lib.hid (show w4.heap.size = Bb ∧ Bb < wb.heap.size from ⟨HSb.out, (Array.getElem?_eq_some_iff.1 hh).1⟩)
      clear hh tt
      have Ub := Lib.hid (U4.out.trans TTb.out (fun _ _ => id))
      have HHb2 := Lib.hid ((Ub.out.block Ba (Array.getElem?_eq_some_iff.1 HH.out).1 id).trans HH.out)
      have HXb := Lib.hid ((Ub.out.block X (Array.getElem?_eq_some_iff.1 HXX.out).1 id).trans HXX.out)
      have HVb := Lib.hid ((Ub.out.block V (Array.getElem?_eq_some_iff.1 HVV.out).1 id).trans HVV.out)
      have HTb := Lib.hid (HTR.out.trans Ub.out (fun _ _ => id))
      have HLB := Lib.hid (show w.heap.size < Bb ∧ X ≠ Bb ∧ V ≠ Bb ∧ Ba ≠ Bb from by
        have h1 := SZb.out
        have h2 := (Array.getElem?_eq_some_iff.1 HH.out).1
        have h3 := (Array.getElem?_eq_some_iff.1 HXX.out).1
        have h4 := (Array.getElem?_eq_some_iff.1 HVV.out).1
        have h5 := U4.out.size
        have h6 := HTR.out.size
        have h7 := HS.out
        omega)
      have k0 : wb.cell? ⟨V, 0, none⟩ = some (.int .i64 n) := by rw [cell_of_row wb V 0 _ 37 (0, 0) HVb.out]; rfl
      have k1 : wb.cell? ⟨V, 1, none⟩ = some (.string s) := by rw [cell_of_row wb V 1 _ 37 (0, 0) HVb.out]; rfl
      have z0 : wb.cell? ⟨Bb, 0, none⟩ = some (.int .i64 (getN o jx)) := by rw [cell_of_row wb Bb 0 _ 37 (0, 0) HHb.out]; rfl
      have z1 := frozen_of_row wb Bb 0 _ 37 HHb.out
      by_cases hkf : jx = f ∧ 0 ≤ f ∧ f ≤ 8
      · obtain ⟨rfl, hk0, hk8⟩ := hkf
        have e1 : (jx == jx) = true := by simp
        have e2 : decide (0 ≤ jx) = true := decide_eq_true hk0
        have e3 : decide (jx < 9) = true := decide_eq_true (by omega)
        rcases (by omega : jx = 0 ∨ (jx = 3 ∨ jx = 6 ∨ jx = 7 ∨ jx = 8) ∨ (jx = 1 ∨ jx = 2 ∨ jx = 4 ∨ jx = 5)) with h0 | h3 | h1
        · subst h0
          go_wp2_with (with_reducible (show wpList _ _ _ (Oper.mk (some 36) _ _ _ _ _ :: _) _ _); refine still ?_)
          refine list_exec rfl _ _ (exec_vlN _ _ (.tmp 35) n rfl rfl _) ?_
          go_wp2_with (with_reducible (show wpList _ _ _ (Oper.mk none (.store 37 (.tmp 9) (.tmp 36)) _ _ _ _ :: _) _ _); refine still ?_)
          refine list_put wb Bb 37 _ (vl n e0) HHb.out rfl (vl_one _ _) vl_info rfl (.tmp 9) (.tmp 36) rfl rfl rfl (fun wp hh tt => ?_)
          have HHp := Lib.hid hh
          have TTp := Lib.hid tt
          clear hh tt
          have HBp := Lib.hid ((TTp.out.block Ba (Array.getElem?_eq_some_iff.1 HHb2.out).1 HLB.out.2.2.2).trans HHb2.out)
          have HXp := Lib.hid ((TTp.out.block X (Array.getElem?_eq_some_iff.1 HXb.out).1 HLB.out.2.1).trans HXb.out)
          have HVp := Lib.hid ((TTp.out.block V (Array.getElem?_eq_some_iff.1 HVb.out).1 HLB.out.2.2.1).trans HVb.out)
          have HTp := Lib.hid (HTb.out.trans TTp.out (fun q hq e => by have := HLB.out.1; omega))
          have kkp0 : wp.cell? ⟨V, 0, none⟩ = some (.int .i64 n) := by rw [cell_of_row wp V 0 _ 37 (0, 0) HVp.out]; rfl
          have kkp1 : wp.cell? ⟨V, 1, none⟩ = some (.string s) := by rw [cell_of_row wp V 1 _ 37 (0, 0) HVp.out]; rfl
          have zp0 : wp.cell? ⟨Bb, 0, none⟩ = some (.int .i64 n) := by rw [cell_of_row wp Bb 0 _ 37 (0, 0) HHp.out]; rfl
          have zp1 := frozen_of_row wp Bb 0 _ 37 HHp.out
          have hq4 := heap_setCell_same wp Bb 0 (vl n e0).toArray 37 (.int .i64 (n % 256)) HHp.out
          rw [show (vl n e0).toArray.setIfInBounds 0 (.int .i64 (n % 256)) = (vl (n % 256) e0).toArray from rfl] at hq4
          have tq : Turn (fun q => q = Bb) wp (wp.setCell ⟨Bb, 0, none⟩ (.int .i64 (n % 256))) := (Turn.refl (fun q => q = Bb) wp).setCell (p := ⟨Bb, 0, none⟩) (fun _ => rfl) _
          obtain ⟨wq, hwq⟩ : ∃ wq, wp.setCell ⟨Bb, 0, none⟩ (.int .i64 (n % 256)) = wq := ⟨_, rfl⟩
          rw [hwq] at hq4 tq
          have HHq := Lib.hid hq4
          have TTq := Lib.hid tq
          clear hq4 tq
          have HBq := Lib.hid ((TTq.out.block Ba (Array.getElem?_eq_some_iff.1 HBp.out).1 HLB.out.2.2.2).trans HBp.out)
          have HXq := Lib.hid ((TTq.out.block X (Array.getElem?_eq_some_iff.1 HXp.out).1 HLB.out.2.1).trans HXp.out)
          have HVq := Lib.hid ((TTq.out.block V (Array.getElem?_eq_some_iff.1 HVp.out).1 HLB.out.2.2.1).trans HVp.out)
          have HTq := Lib.hid (HTp.out.trans TTq.out (fun q hq e => by have := HLB.out.1; omega))
          have HWN := Lib.hid (show wq.heap[Bb]? = some (.cells (vl (getN x 0) (getS x 0)).toArray 37 (0, 0)) from by rw [← HXV.out]; exact HHq.out)
          go_wp2_with fail
          clear hwq zp0 zp1 kkp0 kkp1
          have HWX := Lib.hid (range_of (HBq.out))
          have HWO := Lib.hid (range_of (HXq.out))
          have HWW := Lib.hid (range_of (HWN.out))
          refine wp_region_held_drew (S := fun wq => wq.rangeAt Ba 0 x.vals ∧ wq.rangeAt X 0 o.vals ∧ wq.rangeAt Bb 0 (vl (getN x 0) (getS x 0))) (by kernel_rfl) ⟨HWX.out, HWO.out, HWW.out⟩ (fun hHeld => ?_)
          refine wpAnyH_take (i := 0) (v := .agg x.vals.toArray) rfl (by kernel_rfl) (by kernel_rfl) (by kernel_rfl) (fun _ _ _ h => h) (Or.inl ⟨by rfl, ?yq34⟩) (by assumption) ?rq34
          case yq34 => (intro wq hSw; exact exec_load_mid _ _ 24 (.tmp 7) rfl Ba 0 rfl x.vals _ _ hSw.1 Try.underlying24 rfl el_info)
          case rq34 =>
          try simp only [Act.put, List.setIfInBounds_toArray, List.set_cons_zero, List.set_cons_succ, List.getElem_toArray, List.getElem_cons_zero, List.getElem_cons_succ]
          refine wpAnyH_take (i := 1) (v := .int .i64 0) rfl (by kernel_rfl) (by kernel_rfl) (by kernel_rfl) (fun _ _ _ h => h) (Or.inl ⟨by rfl, ?yq35⟩) (by assumption) ?rq35
          case yq35 => (intro wq hSw; (try simp only [List.getElem_toArray, List.getElem_cons_zero, List.getElem_cons_succ]); go_simp; (try with_reducible rfl); all_goals (try omega))
          case rq35 =>
          try simp only [Act.put, List.setIfInBounds_toArray, List.set_cons_zero, List.set_cons_succ, List.getElem_toArray, List.getElem_cons_zero, List.getElem_cons_succ]
          refine wpAnyH_take (i := 3) (v := .agg (vl (getN x 0) (getS x 0)).toArray) rfl (by kernel_rfl) (by kernel_rfl) (by kernel_rfl) (fun _ _ _ h => h) (Or.inl ⟨by rfl, ?yq36⟩) (by assumption) ?rq36
          case yq36 => (intro wq hSw; exact exec_load_mid _ _ 37 (.tmp 9) rfl Bb 0 rfl (vl (getN x 0) (getS x 0)) _ _ hSw.2.2 Try.underlying37 rfl vl_info)
          case rq36 =>
          try simp only [Act.put, List.setIfInBounds_toArray, List.set_cons_zero, List.set_cons_succ, List.getElem_toArray, List.getElem_cons_zero, List.getElem_cons_succ]
          refine wpAnyH_ready (rs := [2]) (by kernel_rfl) (by simp) ?_
          refine AllReadyH.cons rfl (fun K hK => ?_) AllReadyH.nil
          go_simp
          refine (get_any wq.drew x 0 HKX.out).mono ?_
          rintro r wc ⟨rfl, tc⟩
          have Tc := Lib.hid (((Turn.refl (fun _ => False) wq).drew).trans tc (fun _ _ => id))
          clear tc
          refine hK.out _ _ ⟨rangeAt_turn HWX.out Tc.out id, rangeAt_turn HWO.out Tc.out id, rangeAt_turn HWW.out Tc.out id⟩ (fun _ => ?_)
          clear hK K
          try simp only [Act.put, List.setIfInBounds_toArray, List.set_cons_zero, List.set_cons_succ, List.getElem_toArray, List.getElem_cons_zero, List.getElem_cons_succ]
          refine wpAnyH_take (i := 4) (v := .bool false) rfl (by kernel_rfl) (by kernel_rfl) (by kernel_rfl) (fun _ _ _ h => h) (Or.inl ⟨by rfl, ?yq37⟩) (by assumption) ?rq37
          case yq37 => (intro wq hSw; exact exec_neq_vlsame _ _ rfl _ _ wq rfl rfl)
          case rq37 =>
          try simp only [Act.put, List.setIfInBounds_toArray, List.set_cons_zero, List.set_cons_succ, List.getElem_toArray, List.getElem_cons_zero, List.getElem_cons_succ]
          refine wpAnyH_take (i := 5) (v := .bool false) rfl (by kernel_rfl) (by kernel_rfl) (by kernel_rfl) (fun _ _ _ h => h) (Or.inl ⟨by rfl, ?yq38⟩) (by assumption) ?rq38
          case yq38 => (intro wq hSw; (try simp only [List.getElem_toArray, List.getElem_cons_zero, List.getElem_cons_succ]); go_simp; (try with_reducible rfl); all_goals (try omega))
          case rq38 =>
          try simp only [Act.put, List.setIfInBounds_toArray, List.set_cons_zero, List.set_cons_succ, List.getElem_toArray, List.getElem_cons_zero, List.getElem_cons_succ]
          refine wpAnyH_take (i := 6) (v := .agg o.vals.toArray) rfl (by kernel_rfl) (by kernel_rfl) (by kernel_rfl) (fun _ _ _ h => h) (Or.inl ⟨by rfl, ?yq39⟩) (by assumption) ?rq39
          case yq39 => (intro wq hSw; exact exec_load_mid _ _ 24 (.tmp 3) rfl X 0 rfl o.vals _ _ hSw.2.1 Try.underlying24 rfl el_info)
          case rq39 =>
          try simp only [Act.put, List.setIfInBounds_toArray, List.set_cons_zero, List.set_cons_succ, List.getElem_toArray, List.getElem_cons_zero, List.getElem_cons_succ]
          refine wpAnyH_take (i := 7) (v := .int .i64 0) rfl (by kernel_rfl) (by kernel_rfl) (by kernel_rfl) (fun _ _ _ h => h) (Or.inl ⟨by rfl, ?yq40⟩) (by assumption) ?rq40
          case yq40 => (intro wq hSw; (try simp only [List.getElem_toArray, List.getElem_cons_zero, List.getElem_cons_succ]); go_simp; (try with_reducible rfl); all_goals (try omega))
          case rq40 =>
          try simp only [Act.put, List.setIfInBounds_toArray, List.set_cons_zero, List.set_cons_succ, List.getElem_toArray, List.getElem_cons_zero, List.getElem_cons_succ]
          refine wpAnyH_take (i := 9) (v := .agg o.vals.toArray) rfl (by kernel_rfl) (by kernel_rfl) (by kernel_rfl) (fun _ _ _ h => h) (Or.inl ⟨by rfl, ?yq41⟩) (by assumption) ?rq41
          case yq41 => (intro wq hSw; exact exec_load_mid _ _ 24 (.tmp 3) rfl X 0 rfl o.vals _ _ hSw.2.1 Try.underlying24 rfl el_info)
          case rq41 =>
          try simp only [Act.put, List.setIfInBounds_toArray, List.set_cons_zero, List.set_cons_succ, List.getElem_toArray, List.getElem_cons_zero, List.getElem_cons_succ]
          refine wpAnyH_take (i := 10) (v := .int .i64 0) rfl (by kernel_rfl) (by kernel_rfl) (by kernel_rfl) (fun _ _ _ h => h) (Or.inl ⟨by rfl, ?yq42⟩) (by assumption) ?rq42
          case yq42 => (intro wq hSw; (try simp only [List.getElem_toArray, List.getElem_cons_zero, List.getElem_cons_succ]); go_simp; (try with_reducible rfl); all_goals (try omega))
          case rq42 =>
          try simp only [Act.put, List.setIfInBounds_toArray, List.set_cons_zero, List.set_cons_succ, List.getElem_toArray, List.getElem_cons_zero, List.getElem_cons_succ]
          refine wpAnyH_ready (rs := [8]) (by kernel_rfl) (by simp) ?_
          refine AllReadyH.cons rfl (fun K hK => ?_) AllReadyH.nil
          go_simp
          refine (get_any wc o 0 HKD.out).mono ?_
          rintro r wd ⟨rfl, td⟩
          have Td := Lib.hid (Tc.out.trans td (fun _ _ => id))
          clear td
          refine hK.out _ _ ⟨rangeAt_turn HWX.out Td.out id, rangeAt_turn HWO.out Td.out id, rangeAt_turn HWW.out Td.out id⟩ (fun _ => ?_)
          clear hK K
          try simp only [Act.put, List.setIfInBounds_toArray, List.set_cons_zero, List.set_cons_succ, List.getElem_toArray, List.getElem_cons_zero, List.getElem_cons_succ]
          refine wpAnyH_ready (rs := [11]) (by kernel_rfl) (by simp) ?_
          refine AllReadyH.cons rfl (fun K hK => ?_) AllReadyH.nil
          go_simp
          refine (value_any wd o 0 HKD.out).mono ?_
          rintro r we ⟨rfl, te⟩
          have Te := Lib.hid (Td.out.trans te (fun _ _ => id))
          clear te
          refine hK.out _ _ ⟨rangeAt_turn HWX.out Te.out id, rangeAt_turn HWO.out Te.out id, rangeAt_turn HWW.out Te.out id⟩ (fun _ => ?_)
          clear hK K
          try simp only [Act.put, List.setIfInBounds_toArray, List.set_cons_zero, List.set_cons_succ, List.getElem_toArray, List.getElem_cons_zero, List.getElem_cons_succ]
          refine wpAnyH_take (i := 12) (v := .bool false) rfl (by kernel_rfl) (by kernel_rfl) (by kernel_rfl) (fun _ _ _ h => h) (Or.inl ⟨by rfl, ?yq43⟩) (by assumption) ?rq43
          case yq43 => (intro wq hSw; exact exec_neq_vlsame _ _ rfl _ _ wq rfl rfl)
          case rq43 =>
          try simp only [Act.put, List.setIfInBounds_toArray, List.set_cons_zero, List.set_cons_succ, List.getElem_toArray, List.getElem_cons_zero, List.getElem_cons_succ]
          refine wpAnyH_take (i := 13) (v := .bool false) rfl (by kernel_rfl) (by kernel_rfl) (by kernel_rfl) (fun _ _ _ h => h) (Or.inl ⟨by rfl, ?yq44⟩) (by assumption) ?rq44
          case yq44 => (intro wq hSw; (try simp only [List.getElem_toArray, List.getElem_cons_zero, List.getElem_cons_succ]); go_simp; (try with_reducible rfl); all_goals (try omega))
          case rq44 =>
          try simp only [Act.put, List.setIfInBounds_toArray, List.set_cons_zero, List.set_cons_succ, List.getElem_toArray, List.getElem_cons_zero, List.getElem_cons_succ]
          refine wpAnyH_done (by kernel_rfl) ?_ _
          clear hHeld
          have HHe := Lib.hid ((Te.out.block Ba (Array.getElem?_eq_some_iff.1 (HBq.out)).1 id).trans (HBq.out))
          have HXe := Lib.hid ((Te.out.block X (Array.getElem?_eq_some_iff.1 (HXq.out)).1 id).trans (HXq.out))
          have HVe := Lib.hid ((Te.out.block V (Array.getElem?_eq_some_iff.1 (HVq.out)).1 id).trans (HVq.out))
          have HTe := Lib.hid (HTq.out.trans Te.out (fun _ _ => id))
          try clear k0 k1 z0 z1
          go_wp2_with fail
          go_roundw
          case rel => exact ⟨k + 1, by have := HKK.out; omega, by have := HKK.out; exact congrArg (Value.int .i64) (by omega), HHe.out, HXe.out, HVe.out, HTe.out⟩
          case measure => first | (simp [intOf]; done) | (simp [intOf]; omega)
        · have hxk := get_same_text (o := o) (n := n) (s := s) h3
          rw [HXV.out] at hxk
          have z9 : (jx == 0) = false := by simp; omega
          have e5 : ((jx == 3) = true ∨ ((jx == 3) = false ∧ decide (5 < jx) = true)) := by rcases h3 with h | h | h | h <;> simp [h]
          go_wp2_with (with_reducible (show wpList _ _ _ (Oper.mk (some 36) _ _ _ _ _ :: _) _ _); refine still ?_)
          refine list_exec rfl _ _ (exec_vlN _ _ (.tmp 35) n rfl rfl _) ?_
          go_wp2_with (with_reducible (show wpList _ _ _ (Oper.mk none (.store 37 (.tmp 9) (.tmp 36)) _ _ _ _ :: _) _ _); refine still ?_)
          refine list_put wb Bb 37 _ (vl n e0) HHb.out rfl (vl_one _ _) vl_info rfl (.tmp 9) (.tmp 36) rfl rfl rfl (fun wp hh tt => ?_)
          have HHp := Lib.hid hh
          have TTp := Lib.hid tt
          clear hh tt
          have HBp := Lib.hid ((TTp.out.block Ba (Array.getElem?_eq_some_iff.1 HHb2.out).1 HLB.out.2.2.2).trans HHb2.out)
          have HXp := Lib.hid ((TTp.out.block X (Array.getElem?_eq_some_iff.1 HXb.out).1 HLB.out.2.1).trans HXb.out)
          have HVp := Lib.hid ((TTp.out.block V (Array.getElem?_eq_some_iff.1 HVb.out).1 HLB.out.2.2.1).trans HVb.out)
          have HTp := Lib.hid (HTb.out.trans TTp.out (fun q hq e => by have := HLB.out.1; omega))
          have kkp0 : wp.cell? ⟨V, 0, none⟩ = some (.int .i64 n) := by rw [cell_of_row wp V 0 _ 37 (0, 0) HVp.out]; rfl
          have kkp1 : wp.cell? ⟨V, 1, none⟩ = some (.string s) := by rw [cell_of_row wp V 1 _ 37 (0, 0) HVp.out]; rfl
          rcases e5 with e5 | ⟨e5, e6⟩
          · go_wp2_with (with_reducible (show wpList _ _ _ (Oper.mk (some 52) _ _ _ _ _ :: _) _ _); refine still ?_)
            refine list_exec rfl _ _ (exec_vlS _ _ (.tmp 51) s rfl rfl _) ?_
            go_wp2_with (with_reducible (show wpList _ _ _ (Oper.mk none (.store 37 (.tmp 9) (.tmp 52)) _ _ _ _ :: _) _ _); refine still ?_)
            refine list_put wp Bb 37 _ (vl 0 s) HHp.out rfl (vl_one _ _) vl_info rfl (.tmp 9) (.tmp 52) rfl rfl rfl (fun wq hh tt => ?_)
            have HHq := Lib.hid hh
            have TTq := Lib.hid tt
            clear hh tt
            have HBq := Lib.hid ((TTq.out.block Ba (Array.getElem?_eq_some_iff.1 HBp.out).1 HLB.out.2.2.2).trans HBp.out)
            have HXq := Lib.hid ((TTq.out.block X (Array.getElem?_eq_some_iff.1 HXp.out).1 HLB.out.2.1).trans HXp.out)
            have HVq := Lib.hid ((TTq.out.block V (Array.getElem?_eq_some_iff.1 HVp.out).1 HLB.out.2.2.1).trans HVp.out)
            have HTq := Lib.hid (HTp.out.trans TTq.out (fun q hq e => by have := HLB.out.1; omega))
            have HWN := Lib.hid (show wq.heap[Bb]? = some (.cells (vl (getN x jx) (getS x jx)).toArray 37 (0, 0)) from by rw [hxk.1, hxk.2]; exact HHq.out)
            clear hxk kkp0 kkp1
            go_wp2_with fail
            have HWX := Lib.hid (range_of (HBq.out))
            have HWO := Lib.hid (range_of (HXq.out))
            have HWW := Lib.hid (range_of (HWN.out))
            refine wp_region_held_drew (S := fun wq => wq.rangeAt Ba 0 x.vals ∧ wq.rangeAt X 0 o.vals ∧ wq.rangeAt Bb 0 (vl (getN x jx) (getS x jx))) (by kernel_rfl) ⟨HWX.out, HWO.out, HWW.out⟩ (fun hHeld => ?_)
            refine wpAnyH_take (i := 0) (v := .agg x.vals.toArray) rfl (by kernel_rfl) (by kernel_rfl) (by kernel_rfl) (fun _ _ _ h => h) (Or.inl ⟨by rfl, ?yq45⟩) (by assumption) ?rq45
            case yq45 => (intro wq hSw; exact exec_load_mid _ _ 24 (.tmp 7) rfl Ba 0 rfl x.vals _ _ hSw.1 Try.underlying24 rfl el_info)
            case rq45 =>
            try simp only [Act.put, List.setIfInBounds_toArray, List.set_cons_zero, List.set_cons_succ, List.getElem_toArray, List.getElem_cons_zero, List.getElem_cons_succ]
            refine wpAnyH_take (i := 1) (v := .int .i64 jx) rfl (by kernel_rfl) (by kernel_rfl) (by kernel_rfl) (fun _ _ _ h => h) (Or.inl ⟨by rfl, ?yq46⟩) (by assumption) ?rq46
            case yq46 => (intro wq hSw; (try simp only [List.getElem_toArray, List.getElem_cons_zero, List.getElem_cons_succ]); go_simp; (try with_reducible rfl); all_goals (try omega))
            case rq46 =>
            try simp only [Act.put, List.setIfInBounds_toArray, List.set_cons_zero, List.set_cons_succ, List.getElem_toArray, List.getElem_cons_zero, List.getElem_cons_succ]
            refine wpAnyH_take (i := 3) (v := .agg (vl (getN x jx) (getS x jx)).toArray) rfl (by kernel_rfl) (by kernel_rfl) (by kernel_rfl) (fun _ _ _ h => h) (Or.inl ⟨by rfl, ?yq47⟩) (by assumption) ?rq47
            case yq47 => (intro wq hSw; exact exec_load_mid _ _ 37 (.tmp 9) rfl Bb 0 rfl (vl (getN x jx) (getS x jx)) _ _ hSw.2.2 Try.underlying37 rfl vl_info)
            case rq47 =>
            try simp only [Act.put, List.setIfInBounds_toArray, List.set_cons_zero, List.set_cons_succ, List.getElem_toArray, List.getElem_cons_zero, List.getElem_cons_succ]
            refine wpAnyH_ready (rs := [2]) (by kernel_rfl) (by simp) ?_
            refine AllReadyH.cons rfl (fun K hK => ?_) AllReadyH.nil
            go_simp
            refine (get_any wq.drew x jx HKX.out).mono ?_
            rintro r wc ⟨rfl, tc⟩
            have Tc := Lib.hid (((Turn.refl (fun _ => False) wq).drew).trans tc (fun _ _ => id))
            clear tc
            refine hK.out _ _ ⟨rangeAt_turn HWX.out Tc.out id, rangeAt_turn HWO.out Tc.out id, rangeAt_turn HWW.out Tc.out id⟩ (fun _ => ?_)
            clear hK K
            try simp only [Act.put, List.setIfInBounds_toArray, List.set_cons_zero, List.set_cons_succ, List.getElem_toArray, List.getElem_cons_zero, List.getElem_cons_succ]
            refine wpAnyH_take (i := 4) (v := .bool false) rfl (by kernel_rfl) (by kernel_rfl) (by kernel_rfl) (fun _ _ _ h => h) (Or.inl ⟨by rfl, ?yq48⟩) (by assumption) ?rq48
            case yq48 => (intro wq hSw; exact exec_neq_vlsame _ _ rfl _ _ wq rfl rfl)
            case rq48 =>
            try simp only [Act.put, List.setIfInBounds_toArray, List.set_cons_zero, List.set_cons_succ, List.getElem_toArray, List.getElem_cons_zero, List.getElem_cons_succ]
            refine wpAnyH_take (i := 5) (v := .bool false) rfl (by kernel_rfl) (by kernel_rfl) (by kernel_rfl) (fun _ _ _ h => h) (Or.inl ⟨by rfl, ?yq49⟩) (by assumption) ?rq49
            case yq49 => (intro wq hSw; (try simp only [List.getElem_toArray, List.getElem_cons_zero, List.getElem_cons_succ]); go_simp; (try with_reducible rfl); all_goals (try omega))
            case rq49 =>
            try simp only [Act.put, List.setIfInBounds_toArray, List.set_cons_zero, List.set_cons_succ, List.getElem_toArray, List.getElem_cons_zero, List.getElem_cons_succ]
            refine wpAnyH_take (i := 6) (v := .agg o.vals.toArray) rfl (by kernel_rfl) (by kernel_rfl) (by kernel_rfl) (fun _ _ _ h => h) (Or.inl ⟨by rfl, ?yq50⟩) (by assumption) ?rq50
            case yq50 => (intro wq hSw; exact exec_load_mid _ _ 24 (.tmp 3) rfl X 0 rfl o.vals _ _ hSw.2.1 Try.underlying24 rfl el_info)
            case rq50 =>
            try simp only [Act.put, List.setIfInBounds_toArray, List.set_cons_zero, List.set_cons_succ, List.getElem_toArray, List.getElem_cons_zero, List.getElem_cons_succ]
            refine wpAnyH_take (i := 7) (v := .int .i64 jx) rfl (by kernel_rfl) (by kernel_rfl) (by kernel_rfl) (fun _ _ _ h => h) (Or.inl ⟨by rfl, ?yq51⟩) (by assumption) ?rq51
            case yq51 => (intro wq hSw; (try simp only [List.getElem_toArray, List.getElem_cons_zero, List.getElem_cons_succ]); go_simp; (try with_reducible rfl); all_goals (try omega))
            case rq51 =>
            try simp only [Act.put, List.setIfInBounds_toArray, List.set_cons_zero, List.set_cons_succ, List.getElem_toArray, List.getElem_cons_zero, List.getElem_cons_succ]
            refine wpAnyH_take (i := 9) (v := .agg o.vals.toArray) rfl (by kernel_rfl) (by kernel_rfl) (by kernel_rfl) (fun _ _ _ h => h) (Or.inl ⟨by rfl, ?yq52⟩) (by assumption) ?rq52
            case yq52 => (intro wq hSw; exact exec_load_mid _ _ 24 (.tmp 3) rfl X 0 rfl o.vals _ _ hSw.2.1 Try.underlying24 rfl el_info)
            case rq52 =>
            try simp only [Act.put, List.setIfInBounds_toArray, List.set_cons_zero, List.set_cons_succ, List.getElem_toArray, List.getElem_cons_zero, List.getElem_cons_succ]
            refine wpAnyH_take (i := 10) (v := .int .i64 jx) rfl (by kernel_rfl) (by kernel_rfl) (by kernel_rfl) (fun _ _ _ h => h) (Or.inl ⟨by rfl, ?yq53⟩) (by assumption) ?rq53
            case yq53 => (intro wq hSw; (try simp only [List.getElem_toArray, List.getElem_cons_zero, List.getElem_cons_succ]); go_simp; (try with_reducible rfl); all_goals (try omega))
            case rq53 =>
            try simp only [Act.put, List.setIfInBounds_toArray, List.set_cons_zero, List.set_cons_succ, List.getElem_toArray, List.getElem_cons_zero, List.getElem_cons_succ]
            refine wpAnyH_ready (rs := [8]) (by kernel_rfl) (by simp) ?_
            refine AllReadyH.cons rfl (fun K hK => ?_) AllReadyH.nil
            go_simp
            refine (get_any wc o jx HKD.out).mono ?_
            rintro r wd ⟨rfl, td⟩
            have Td := Lib.hid (Tc.out.trans td (fun _ _ => id))
            clear td
            refine hK.out _ _ ⟨rangeAt_turn HWX.out Td.out id, rangeAt_turn HWO.out Td.out id, rangeAt_turn HWW.out Td.out id⟩ (fun _ => ?_)
            clear hK K
            try simp only [Act.put, List.setIfInBounds_toArray, List.set_cons_zero, List.set_cons_succ, List.getElem_toArray, List.getElem_cons_zero, List.getElem_cons_succ]
            refine wpAnyH_ready (rs := [11]) (by kernel_rfl) (by simp) ?_
            refine AllReadyH.cons rfl (fun K hK => ?_) AllReadyH.nil
            go_simp
            refine (value_any wd o jx HKD.out).mono ?_
            rintro r we ⟨rfl, te⟩
            have Te := Lib.hid (Td.out.trans te (fun _ _ => id))
            clear te
            refine hK.out _ _ ⟨rangeAt_turn HWX.out Te.out id, rangeAt_turn HWO.out Te.out id, rangeAt_turn HWW.out Te.out id⟩ (fun _ => ?_)
            clear hK K
            try simp only [Act.put, List.setIfInBounds_toArray, List.set_cons_zero, List.set_cons_succ, List.getElem_toArray, List.getElem_cons_zero, List.getElem_cons_succ]
            refine wpAnyH_take (i := 12) (v := .bool false) rfl (by kernel_rfl) (by kernel_rfl) (by kernel_rfl) (fun _ _ _ h => h) (Or.inl ⟨by rfl, ?yq54⟩) (by assumption) ?rq54
            case yq54 => (intro wq hSw; exact exec_neq_vlsame _ _ rfl _ _ wq rfl rfl)
            case rq54 =>
            try simp only [Act.put, List.setIfInBounds_toArray, List.set_cons_zero, List.set_cons_succ, List.getElem_toArray, List.getElem_cons_zero, List.getElem_cons_succ]
            refine wpAnyH_take (i := 13) (v := .bool false) rfl (by kernel_rfl) (by kernel_rfl) (by kernel_rfl) (fun _ _ _ h => h) (Or.inl ⟨by rfl, ?yq55⟩) (by assumption) ?rq55
            case yq55 => (intro wq hSw; (try simp only [List.getElem_toArray, List.getElem_cons_zero, List.getElem_cons_succ]); go_simp; (try with_reducible rfl); all_goals (try omega))
            case rq55 =>
            try simp only [Act.put, List.setIfInBounds_toArray, List.set_cons_zero, List.set_cons_succ, List.getElem_toArray, List.getElem_cons_zero, List.getElem_cons_succ]
            refine wpAnyH_done (by kernel_rfl) ?_ _
            clear hHeld
            have HHe := Lib.hid ((Te.out.block Ba (Array.getElem?_eq_some_iff.1 (HBq.out)).1 id).trans (HBq.out))
            have HXe := Lib.hid ((Te.out.block X (Array.getElem?_eq_some_iff.1 (HXq.out)).1 id).trans (HXq.out))
            have HVe := Lib.hid ((Te.out.block V (Array.getElem?_eq_some_iff.1 (HVq.out)).1 id).trans (HVq.out))
            have HTe := Lib.hid (HTq.out.trans Te.out (fun _ _ => id))
            try clear k0 k1 z0 z1
            go_wp2_with fail
            go_roundw
            case rel => exact ⟨k + 1, by have := HKK.out; omega, by have := HKK.out; exact congrArg (Value.int .i64) (by omega), HHe.out, HXe.out, HVe.out, HTe.out⟩
            case measure => first | (simp [intOf]; done) | (simp [intOf]; omega)
          · go_wp2_with (with_reducible (show wpList _ _ _ (Oper.mk (some 52) _ _ _ _ _ :: _) _ _); refine still ?_)
            refine list_exec rfl _ _ (exec_vlS _ _ (.tmp 51) s rfl rfl _) ?_
            go_wp2_with (with_reducible (show wpList _ _ _ (Oper.mk none (.store 37 (.tmp 9) (.tmp 52)) _ _ _ _ :: _) _ _); refine still ?_)
            refine list_put wp Bb 37 _ (vl 0 s) HHp.out rfl (vl_one _ _) vl_info rfl (.tmp 9) (.tmp 52) rfl rfl rfl (fun wq hh tt => ?_)
            have HHq := Lib.hid hh
            have TTq := Lib.hid tt
            clear hh tt
            have HBq := Lib.hid ((TTq.out.block Ba (Array.getElem?_eq_some_iff.1 HBp.out).1 HLB.out.2.2.2).trans HBp.out)
            have HXq := Lib.hid ((TTq.out.block X (Array.getElem?_eq_some_iff.1 HXp.out).1 HLB.out.2.1).trans HXp.out)
            have HVq := Lib.hid ((TTq.out.block V (Array.getElem?_eq_some_iff.1 HVp.out).1 HLB.out.2.2.1).trans HVp.out)
            have HTq := Lib.hid (HTp.out.trans TTq.out (fun q hq e => by have := HLB.out.1; omega))
            have HWN := Lib.hid (show wq.heap[Bb]? = some (.cells (vl (getN x jx) (getS x jx)).toArray 37 (0, 0)) from by rw [hxk.1, hxk.2]; exact HHq.out)
            clear hxk kkp0 kkp1
            go_wp2_with fail
            have HWX := Lib.hid (range_of (HBq.out))
            have HWO := Lib.hid (range_of (HXq.out))
            have HWW := Lib.hid (range_of (HWN.out))
            refine wp_region_held_drew (S := fun wq => wq.rangeAt Ba 0 x.vals ∧ wq.rangeAt X 0 o.vals ∧ wq.rangeAt Bb 0 (vl (getN x jx) (getS x jx))) (by kernel_rfl) ⟨HWX.out, HWO.out, HWW.out⟩ (fun hHeld => ?_)
            refine wpAnyH_take (i := 0) (v := .agg x.vals.toArray) rfl (by kernel_rfl) (by kernel_rfl) (by kernel_rfl) (fun _ _ _ h => h) (Or.inl ⟨by rfl, ?yq56⟩) (by assumption) ?rq56
            case yq56 => (intro wq hSw; exact exec_load_mid _ _ 24 (.tmp 7) rfl Ba 0 rfl x.vals _ _ hSw.1 Try.underlying24 rfl el_info)
            case rq56 =>
            try simp only [Act.put, List.setIfInBounds_toArray, List.set_cons_zero, List.set_cons_succ, List.getElem_toArray, List.getElem_cons_zero, List.getElem_cons_succ]
            refine wpAnyH_take (i := 1) (v := .int .i64 jx) rfl (by kernel_rfl) (by kernel_rfl) (by kernel_rfl) (fun _ _ _ h => h) (Or.inl ⟨by rfl, ?yq57⟩) (by assumption) ?rq57
            case yq57 => (intro wq hSw; (try simp only [List.getElem_toArray, List.getElem_cons_zero, List.getElem_cons_succ]); go_simp; (try with_reducible rfl); all_goals (try omega))
            case rq57 =>
            try simp only [Act.put, List.setIfInBounds_toArray, List.set_cons_zero, List.set_cons_succ, List.getElem_toArray, List.getElem_cons_zero, List.getElem_cons_succ]
            refine wpAnyH_take (i := 3) (v := .agg (vl (getN x jx) (getS x jx)).toArray) rfl (by kernel_rfl) (by kernel_rfl) (by kernel_rfl) (fun _ _ _ h => h) (Or.inl ⟨by rfl, ?yq58⟩) (by assumption) ?rq58
            case yq58 => (intro wq hSw; exact exec_load_mid _ _ 37 (.tmp 9) rfl Bb 0 rfl (vl (getN x jx) (getS x jx)) _ _ hSw.2.2 Try.underlying37 rfl vl_info)
            case rq58 =>
            try simp only [Act.put, List.setIfInBounds_toArray, List.set_cons_zero, List.set_cons_succ, List.getElem_toArray, List.getElem_cons_zero, List.getElem_cons_succ]
            refine wpAnyH_ready (rs := [2]) (by kernel_rfl) (by simp) ?_
            refine AllReadyH.cons rfl (fun K hK => ?_) AllReadyH.nil
            go_simp
            refine (get_any wq.drew x jx HKX.out).mono ?_
            rintro r wc ⟨rfl, tc⟩
            have Tc := Lib.hid (((Turn.refl (fun _ => False) wq).drew).trans tc (fun _ _ => id))
            clear tc
            refine hK.out _ _ ⟨rangeAt_turn HWX.out Tc.out id, rangeAt_turn HWO.out Tc.out id, rangeAt_turn HWW.out Tc.out id⟩ (fun _ => ?_)
            clear hK K
            try simp only [Act.put, List.setIfInBounds_toArray, List.set_cons_zero, List.set_cons_succ, List.getElem_toArray, List.getElem_cons_zero, List.getElem_cons_succ]
            refine wpAnyH_take (i := 4) (v := .bool false) rfl (by kernel_rfl) (by kernel_rfl) (by kernel_rfl) (fun _ _ _ h => h) (Or.inl ⟨by rfl, ?yq59⟩) (by assumption) ?rq59
            case yq59 => (intro wq hSw; exact exec_neq_vlsame _ _ rfl _ _ wq rfl rfl)
            case rq59 =>
            try simp only [Act.put, List.setIfInBounds_toArray, List.set_cons_zero, List.set_cons_succ, List.getElem_toArray, List.getElem_cons_zero, List.getElem_cons_succ]
            refine wpAnyH_take (i := 5) (v := .bool false) rfl (by kernel_rfl) (by kernel_rfl) (by kernel_rfl) (fun _ _ _ h => h) (Or.inl ⟨by rfl, ?yq60⟩) (by assumption) ?rq60
            case yq60 => (intro wq hSw; (try simp only [List.getElem_toArray, List.getElem_cons_zero, List.getElem_cons_succ]); go_simp; (try with_reducible rfl); all_goals (try omega))
            case rq60 =>
            try simp only [Act.put, List.setIfInBounds_toArray, List.set_cons_zero, List.set_cons_succ, List.getElem_toArray, List.getElem_cons_zero, List.getElem_cons_succ]
            refine wpAnyH_take (i := 6) (v := .agg o.vals.toArray) rfl (by kernel_rfl) (by kernel_rfl) (by kernel_rfl) (fun _ _ _ h => h) (Or.inl ⟨by rfl, ?yq61⟩) (by assumption) ?rq61
            case yq61 => (intro wq hSw; exact exec_load_mid _ _ 24 (.tmp 3) rfl X 0 rfl o.vals _ _ hSw.2.1 Try.underlying24 rfl el_info)
            case rq61 =>
            try simp only [Act.put, List.setIfInBounds_toArray, List.set_cons_zero, List.set_cons_succ, List.getElem_toArray, List.getElem_cons_zero, List.getElem_cons_succ]
            refine wpAnyH_take (i := 7) (v := .int .i64 jx) rfl (by kernel_rfl) (by kernel_rfl) (by kernel_rfl) (fun _ _ _ h => h) (Or.inl ⟨by rfl, ?yq62⟩) (by assumption) ?rq62
            case yq62 => (intro wq hSw; (try simp only [List.getElem_toArray, List.getElem_cons_zero, List.getElem_cons_succ]); go_simp; (try with_reducible rfl); all_goals (try omega))
            case rq62 =>
            try simp only [Act.put, List.setIfInBounds_toArray, List.set_cons_zero, List.set_cons_succ, List.getElem_toArray, List.getElem_cons_zero, List.getElem_cons_succ]
            refine wpAnyH_take (i := 9) (v := .agg o.vals.toArray) rfl (by kernel_rfl) (by kernel_rfl) (by kernel_rfl) (fun _ _ _ h => h) (Or.inl ⟨by rfl, ?yq63⟩) (by assumption) ?rq63
            case yq63 => (intro wq hSw; exact exec_load_mid _ _ 24 (.tmp 3) rfl X 0 rfl o.vals _ _ hSw.2.1 Try.underlying24 rfl el_info)
            case rq63 =>
            try simp only [Act.put, List.setIfInBounds_toArray, List.set_cons_zero, List.set_cons_succ, List.getElem_toArray, List.getElem_cons_zero, List.getElem_cons_succ]
            refine wpAnyH_take (i := 10) (v := .int .i64 jx) rfl (by kernel_rfl) (by kernel_rfl) (by kernel_rfl) (fun _ _ _ h => h) (Or.inl ⟨by rfl, ?yq64⟩) (by assumption) ?rq64
            case yq64 => (intro wq hSw; (try simp only [List.getElem_toArray, List.getElem_cons_zero, List.getElem_cons_succ]); go_simp; (try with_reducible rfl); all_goals (try omega))
            case rq64 =>
            try simp only [Act.put, List.setIfInBounds_toArray, List.set_cons_zero, List.set_cons_succ, List.getElem_toArray, List.getElem_cons_zero, List.getElem_cons_succ]
            refine wpAnyH_ready (rs := [8]) (by kernel_rfl) (by simp) ?_
            refine AllReadyH.cons rfl (fun K hK => ?_) AllReadyH.nil
            go_simp
            refine (get_any wc o jx HKD.out).mono ?_
            rintro r wd ⟨rfl, td⟩
            have Td := Lib.hid (Tc.out.trans td (fun _ _ => id))
            clear td
            refine hK.out _ _ ⟨rangeAt_turn HWX.out Td.out id, rangeAt_turn HWO.out Td.out id, rangeAt_turn HWW.out Td.out id⟩ (fun _ => ?_)
            clear hK K
            try simp only [Act.put, List.setIfInBounds_toArray, List.set_cons_zero, List.set_cons_succ, List.getElem_toArray, List.getElem_cons_zero, List.getElem_cons_succ]
            refine wpAnyH_ready (rs := [11]) (by kernel_rfl) (by simp) ?_
            refine AllReadyH.cons rfl (fun K hK => ?_) AllReadyH.nil
            go_simp
            refine (value_any wd o jx HKD.out).mono ?_
            rintro r we ⟨rfl, te⟩
            have Te := Lib.hid (Td.out.trans te (fun _ _ => id))
            clear te
            refine hK.out _ _ ⟨rangeAt_turn HWX.out Te.out id, rangeAt_turn HWO.out Te.out id, rangeAt_turn HWW.out Te.out id⟩ (fun _ => ?_)
            clear hK K
            try simp only [Act.put, List.setIfInBounds_toArray, List.set_cons_zero, List.set_cons_succ, List.getElem_toArray, List.getElem_cons_zero, List.getElem_cons_succ]
            refine wpAnyH_take (i := 12) (v := .bool false) rfl (by kernel_rfl) (by kernel_rfl) (by kernel_rfl) (fun _ _ _ h => h) (Or.inl ⟨by rfl, ?yq65⟩) (by assumption) ?rq65
            case yq65 => (intro wq hSw; exact exec_neq_vlsame _ _ rfl _ _ wq rfl rfl)
            case rq65 =>
            try simp only [Act.put, List.setIfInBounds_toArray, List.set_cons_zero, List.set_cons_succ, List.getElem_toArray, List.getElem_cons_zero, List.getElem_cons_succ]
            refine wpAnyH_take (i := 13) (v := .bool false) rfl (by kernel_rfl) (by kernel_rfl) (by kernel_rfl) (fun _ _ _ h => h) (Or.inl ⟨by rfl, ?yq66⟩) (by assumption) ?rq66
            case yq66 => (intro wq hSw; (try simp only [List.getElem_toArray, List.getElem_cons_zero, List.getElem_cons_succ]); go_simp; (try with_reducible rfl); all_goals (try omega))
            case rq66 =>
            try simp only [Act.put, List.setIfInBounds_toArray, List.set_cons_zero, List.set_cons_succ, List.getElem_toArray, List.getElem_cons_zero, List.getElem_cons_succ]
            refine wpAnyH_done (by kernel_rfl) ?_ _
            clear hHeld
            have HHe := Lib.hid ((Te.out.block Ba (Array.getElem?_eq_some_iff.1 (HBq.out)).1 id).trans (HBq.out))
            have HXe := Lib.hid ((Te.out.block X (Array.getElem?_eq_some_iff.1 (HXq.out)).1 id).trans (HXq.out))
            have HVe := Lib.hid ((Te.out.block V (Array.getElem?_eq_some_iff.1 (HVq.out)).1 id).trans (HVq.out))
            have HTe := Lib.hid (HTq.out.trans Te.out (fun _ _ => id))
            try clear k0 k1 z0 z1
            go_wp2_with fail
            go_roundw
            case rel => exact ⟨k + 1, by have := HKK.out; omega, by have := HKK.out; exact congrArg (Value.int .i64) (by omega), HHe.out, HXe.out, HVe.out, HTe.out⟩
            case measure => first | (simp [intOf]; done) | (simp [intOf]; omega)
        · have hxk := get_same_num (o := o) (n := n) (s := s) h1
          rw [HXV.out] at hxk
          have z9 : (jx == 0) = false := by simp; omega
          have e5 : (jx == 3) = false := by simp; omega
          have e6 : decide (5 < jx) = false := decide_eq_false (by omega)
          go_wp2_with (with_reducible (show wpList _ _ _ (Oper.mk (some 36) _ _ _ _ _ :: _) _ _); refine still ?_)
          refine list_exec rfl _ _ (exec_vlN _ _ (.tmp 35) n rfl rfl _) ?_
          go_wp2_with (with_reducible (show wpList _ _ _ (Oper.mk none (.store 37 (.tmp 9) (.tmp 36)) _ _ _ _ :: _) _ _); refine still ?_)
          refine list_put wb Bb 37 _ (vl n e0) HHb.out rfl (vl_one _ _) vl_info rfl (.tmp 9) (.tmp 36) rfl rfl rfl (fun wp hh tt => ?_)
          have HHp := Lib.hid hh
          have TTp := Lib.hid tt
          clear hh tt
          have HBp := Lib.hid ((TTp.out.block Ba (Array.getElem?_eq_some_iff.1 HHb2.out).1 HLB.out.2.2.2).trans HHb2.out)
          have HXp := Lib.hid ((TTp.out.block X (Array.getElem?_eq_some_iff.1 HXb.out).1 HLB.out.2.1).trans HXb.out)
          have HVp := Lib.hid ((TTp.out.block V (Array.getElem?_eq_some_iff.1 HVb.out).1 HLB.out.2.2.1).trans HVb.out)
          have HTp := Lib.hid (HTb.out.trans TTp.out (fun q hq e => by have := HLB.out.1; omega))
          have kkp0 : wp.cell? ⟨V, 0, none⟩ = some (.int .i64 n) := by rw [cell_of_row wp V 0 _ 37 (0, 0) HVp.out]; rfl
          have kkp1 : wp.cell? ⟨V, 1, none⟩ = some (.string s) := by rw [cell_of_row wp V 1 _ 37 (0, 0) HVp.out]; rfl
          have HWN := Lib.hid (show wp.heap[Bb]? = some (.cells (vl (getN x jx) (getS x jx)).toArray 37 (0, 0)) from by rw [hxk.1, hxk.2]; exact HHp.out)
          clear hxk
          go_wp2_with fail
          clear kkp0 kkp1
          have HWX := Lib.hid (range_of (HBp.out))
          have HWO := Lib.hid (range_of (HXp.out))
          have HWW := Lib.hid (range_of (HWN.out))
          refine wp_region_held_drew (S := fun wq => wq.rangeAt Ba 0 x.vals ∧ wq.rangeAt X 0 o.vals ∧ wq.rangeAt Bb 0 (vl (getN x jx) (getS x jx))) (by kernel_rfl) ⟨HWX.out, HWO.out, HWW.out⟩ (fun hHeld => ?_)
          refine wpAnyH_take (i := 0) (v := .agg x.vals.toArray) rfl (by kernel_rfl) (by kernel_rfl) (by kernel_rfl) (fun _ _ _ h => h) (Or.inl ⟨by rfl, ?yq67⟩) (by assumption) ?rq67
          case yq67 => (intro wq hSw; exact exec_load_mid _ _ 24 (.tmp 7) rfl Ba 0 rfl x.vals _ _ hSw.1 Try.underlying24 rfl el_info)
          case rq67 =>
          try simp only [Act.put, List.setIfInBounds_toArray, List.set_cons_zero, List.set_cons_succ, List.getElem_toArray, List.getElem_cons_zero, List.getElem_cons_succ]
          refine wpAnyH_take (i := 1) (v := .int .i64 jx) rfl (by kernel_rfl) (by kernel_rfl) (by kernel_rfl) (fun _ _ _ h => h) (Or.inl ⟨by rfl, ?yq68⟩) (by assumption) ?rq68
          case yq68 => (intro wq hSw; (try simp only [List.getElem_toArray, List.getElem_cons_zero, List.getElem_cons_succ]); go_simp; (try with_reducible rfl); all_goals (try omega))
          case rq68 =>
          try simp only [Act.put, List.setIfInBounds_toArray, List.set_cons_zero, List.set_cons_succ, List.getElem_toArray, List.getElem_cons_zero, List.getElem_cons_succ]
          refine wpAnyH_take (i := 3) (v := .agg (vl (getN x jx) (getS x jx)).toArray) rfl (by kernel_rfl) (by kernel_rfl) (by kernel_rfl) (fun _ _ _ h => h) (Or.inl ⟨by rfl, ?yq69⟩) (by assumption) ?rq69
          case yq69 => (intro wq hSw; exact exec_load_mid _ _ 37 (.tmp 9) rfl Bb 0 rfl (vl (getN x jx) (getS x jx)) _ _ hSw.2.2 Try.underlying37 rfl vl_info)
          case rq69 =>
          try simp only [Act.put, List.setIfInBounds_toArray, List.set_cons_zero, List.set_cons_succ, List.getElem_toArray, List.getElem_cons_zero, List.getElem_cons_succ]
          refine wpAnyH_ready (rs := [2]) (by kernel_rfl) (by simp) ?_
          refine AllReadyH.cons rfl (fun K hK => ?_) AllReadyH.nil
          go_simp
          refine (get_any wp.drew x jx HKX.out).mono ?_
          rintro r wc ⟨rfl, tc⟩
          have Tc := Lib.hid (((Turn.refl (fun _ => False) wp).drew).trans tc (fun _ _ => id))
          clear tc
          refine hK.out _ _ ⟨rangeAt_turn HWX.out Tc.out id, rangeAt_turn HWO.out Tc.out id, rangeAt_turn HWW.out Tc.out id⟩ (fun _ => ?_)
          clear hK K
          try simp only [Act.put, List.setIfInBounds_toArray, List.set_cons_zero, List.set_cons_succ, List.getElem_toArray, List.getElem_cons_zero, List.getElem_cons_succ]
          refine wpAnyH_take (i := 4) (v := .bool false) rfl (by kernel_rfl) (by kernel_rfl) (by kernel_rfl) (fun _ _ _ h => h) (Or.inl ⟨by rfl, ?yq70⟩) (by assumption) ?rq70
          case yq70 => (intro wq hSw; exact exec_neq_vlsame _ _ rfl _ _ wq rfl rfl)
          case rq70 =>
          try simp only [Act.put, List.setIfInBounds_toArray, List.set_cons_zero, List.set_cons_succ, List.getElem_toArray, List.getElem_cons_zero, List.getElem_cons_succ]
          refine wpAnyH_take (i := 5) (v := .bool false) rfl (by kernel_rfl) (by kernel_rfl) (by kernel_rfl) (fun _ _ _ h => h) (Or.inl ⟨by rfl, ?yq71⟩) (by assumption) ?rq71
          case yq71 => (intro wq hSw; (try simp only [List.getElem_toArray, List.getElem_cons_zero, List.getElem_cons_succ]); go_simp; (try with_reducible rfl); all_goals (try omega))
          case rq71 =>
          try simp only [Act.put, List.setIfInBounds_toArray, List.set_cons_zero, List.set_cons_succ, List.getElem_toArray, List.getElem_cons_zero, List.getElem_cons_succ]
          refine wpAnyH_take (i := 6) (v := .agg o.vals.toArray) rfl (by kernel_rfl) (by kernel_rfl) (by kernel_rfl) (fun _ _ _ h => h) (Or.inl ⟨by rfl, ?yq72⟩) (by assumption) ?rq72
          case yq72 => (intro wq hSw; exact exec_load_mid _ _ 24 (.tmp 3) rfl X 0 rfl o.vals _ _ hSw.2.1 Try.underlying24 rfl el_info)
          case rq72 =>
          try simp only [Act.put, List.setIfInBounds_toArray, List.set_cons_zero, List.set_cons_succ, List.getElem_toArray, List.getElem_cons_zero, List.getElem_cons_succ]
          refine wpAnyH_take (i := 7) (v := .int .i64 jx) rfl (by kernel_rfl) (by kernel_rfl) (by kernel_rfl) (fun _ _ _ h => h) (Or.inl ⟨by rfl, ?yq73⟩) (by assumption) ?rq73
          case yq73 => (intro wq hSw; (try simp only [List.getElem_toArray, List.getElem_cons_zero, List.getElem_cons_succ]); go_simp; (try with_reducible rfl); all_goals (try omega))
          case rq73 =>
          try simp only [Act.put, List.setIfInBounds_toArray, List.set_cons_zero, List.set_cons_succ, List.getElem_toArray, List.getElem_cons_zero, List.getElem_cons_succ]
          refine wpAnyH_take (i := 9) (v := .agg o.vals.toArray) rfl (by kernel_rfl) (by kernel_rfl) (by kernel_rfl) (fun _ _ _ h => h) (Or.inl ⟨by rfl, ?yq74⟩) (by assumption) ?rq74
          case yq74 => (intro wq hSw; exact exec_load_mid _ _ 24 (.tmp 3) rfl X 0 rfl o.vals _ _ hSw.2.1 Try.underlying24 rfl el_info)
          case rq74 =>
          try simp only [Act.put, List.setIfInBounds_toArray, List.set_cons_zero, List.set_cons_succ, List.getElem_toArray, List.getElem_cons_zero, List.getElem_cons_succ]
          refine wpAnyH_take (i := 10) (v := .int .i64 jx) rfl (by kernel_rfl) (by kernel_rfl) (by kernel_rfl) (fun _ _ _ h => h) (Or.inl ⟨by rfl, ?yq75⟩) (by assumption) ?rq75
          case yq75 => (intro wq hSw; (try simp only [List.getElem_toArray, List.getElem_cons_zero, List.getElem_cons_succ]); go_simp; (try with_reducible rfl); all_goals (try omega))
          case rq75 =>
          try simp only [Act.put, List.setIfInBounds_toArray, List.set_cons_zero, List.set_cons_succ, List.getElem_toArray, List.getElem_cons_zero, List.getElem_cons_succ]
          refine wpAnyH_ready (rs := [8]) (by kernel_rfl) (by simp) ?_
          refine AllReadyH.cons rfl (fun K hK => ?_) AllReadyH.nil
          go_simp
          refine (get_any wc o jx HKD.out).mono ?_
          rintro r wd ⟨rfl, td⟩
          have Td := Lib.hid (Tc.out.trans td (fun _ _ => id))
          clear td
          refine hK.out _ _ ⟨rangeAt_turn HWX.out Td.out id, rangeAt_turn HWO.out Td.out id, rangeAt_turn HWW.out Td.out id⟩ (fun _ => ?_)
          clear hK K
          try simp only [Act.put, List.setIfInBounds_toArray, List.set_cons_zero, List.set_cons_succ, List.getElem_toArray, List.getElem_cons_zero, List.getElem_cons_succ]
          refine wpAnyH_ready (rs := [11]) (by kernel_rfl) (by simp) ?_
          refine AllReadyH.cons rfl (fun K hK => ?_) AllReadyH.nil
          go_simp
          refine (value_any wd o jx HKD.out).mono ?_
          rintro r we ⟨rfl, te⟩
          have Te := Lib.hid (Td.out.trans te (fun _ _ => id))
          clear te
          refine hK.out _ _ ⟨rangeAt_turn HWX.out Te.out id, rangeAt_turn HWO.out Te.out id, rangeAt_turn HWW.out Te.out id⟩ (fun _ => ?_)
          clear hK K
          try simp only [Act.put, List.setIfInBounds_toArray, List.set_cons_zero, List.set_cons_succ, List.getElem_toArray, List.getElem_cons_zero, List.getElem_cons_succ]
          refine wpAnyH_take (i := 12) (v := .bool false) rfl (by kernel_rfl) (by kernel_rfl) (by kernel_rfl) (fun _ _ _ h => h) (Or.inl ⟨by rfl, ?yq76⟩) (by assumption) ?rq76
          case yq76 => (intro wq hSw; exact exec_neq_vlsame _ _ rfl _ _ wq rfl rfl)
          case rq76 =>
          try simp only [Act.put, List.setIfInBounds_toArray, List.set_cons_zero, List.set_cons_succ, List.getElem_toArray, List.getElem_cons_zero, List.getElem_cons_succ]
          refine wpAnyH_take (i := 13) (v := .bool false) rfl (by kernel_rfl) (by kernel_rfl) (by kernel_rfl) (fun _ _ _ h => h) (Or.inl ⟨by rfl, ?yq77⟩) (by assumption) ?rq77
          case yq77 => (intro wq hSw; (try simp only [List.getElem_toArray, List.getElem_cons_zero, List.getElem_cons_succ]); go_simp; (try with_reducible rfl); all_goals (try omega))
          case rq77 =>
          try simp only [Act.put, List.setIfInBounds_toArray, List.set_cons_zero, List.set_cons_succ, List.getElem_toArray, List.getElem_cons_zero, List.getElem_cons_succ]
          refine wpAnyH_done (by kernel_rfl) ?_ _
          clear hHeld
          have HHe := Lib.hid ((Te.out.block Ba (Array.getElem?_eq_some_iff.1 (HBp.out)).1 id).trans (HBp.out))
          have HXe := Lib.hid ((Te.out.block X (Array.getElem?_eq_some_iff.1 (HXp.out)).1 id).trans (HXp.out))
          have HVe := Lib.hid ((Te.out.block V (Array.getElem?_eq_some_iff.1 (HVp.out)).1 id).trans (HVp.out))
          have HTe := Lib.hid (HTp.out.trans Te.out (fun _ _ => id))
          try clear k0 k1 z0 z1
          go_wp2_with fail
          go_roundw
          case rel => exact ⟨k + 1, by have := HKK.out; omega, by have := HKK.out; exact congrArg (Value.int .i64) (by omega), HHe.out, HXe.out, HVe.out, HTe.out⟩
          case measure => first | (simp [intOf]; done) | (simp [intOf]; omega)
      · by_cases hne : jx = f
        · have hxk : getN x jx = getN o jx ∧ getS x jx = getS o jx := by rw [← HXV.out, get_same_out (by omega)]; exact ⟨rfl, rfl⟩
          have HWN := Lib.hid (show wb.heap[Bb]? = some (.cells (vl (getN x jx) (getS x jx)).toArray 37 (0, 0)) from by rw [hxk.1, hxk.2]; exact HHb.out)
          clear hxk
          have e1 : (jx == f) = true := by simpa using hne
          have HNE := Lib.hid hne
          by_cases hf0 : f < 0
          · have e2 : decide (0 ≤ f) = false := decide_eq_false (by omega)
            clear hne hkf
            go_wp2_with fail
            have HWX := Lib.hid (range_of (HHb2.out))
            have HWO := Lib.hid (range_of (HXb.out))
            have HWW := Lib.hid (range_of (HWN.out))
            refine wp_region_held_drew (S := fun wq => wq.rangeAt Ba 0 x.vals ∧ wq.rangeAt X 0 o.vals ∧ wq.rangeAt Bb 0 (vl (getN x jx) (getS x jx))) (by kernel_rfl) ⟨HWX.out, HWO.out, HWW.out⟩ (fun hHeld => ?_)
            refine wpAnyH_take (i := 0) (v := .agg x.vals.toArray) rfl (by kernel_rfl) (by kernel_rfl) (by kernel_rfl) (fun _ _ _ h => h) (Or.inl ⟨by rfl, ?yq1⟩) (by assumption) ?rq1
            case yq1 => (intro wq hSw; exact exec_load_mid _ _ 24 (.tmp 7) rfl Ba 0 rfl x.vals _ _ hSw.1 Try.underlying24 rfl el_info)
            case rq1 =>
            try simp only [Act.put, List.setIfInBounds_toArray, List.set_cons_zero, List.set_cons_succ, List.getElem_toArray, List.getElem_cons_zero, List.getElem_cons_succ]
            refine wpAnyH_take (i := 1) (v := .int .i64 jx) rfl (by kernel_rfl) (by kernel_rfl) (by kernel_rfl) (fun _ _ _ h => h) (Or.inl ⟨by rfl, ?yq2⟩) (by assumption) ?rq2
            case yq2 => (intro wq hSw; (try simp only [List.getElem_toArray, List.getElem_cons_zero, List.getElem_cons_succ]); go_simp; (try with_reducible rfl); all_goals (try omega))
            case rq2 =>
            try simp only [Act.put, List.setIfInBounds_toArray, List.set_cons_zero, List.set_cons_succ, List.getElem_toArray, List.getElem_cons_zero, List.getElem_cons_succ]
            refine wpAnyH_take (i := 3) (v := .agg (vl (getN x jx) (getS x jx)).toArray) rfl (by kernel_rfl) (by kernel_rfl) (by kernel_rfl) (fun _ _ _ h => h) (Or.inl ⟨by rfl, ?yq3⟩) (by assumption) ?rq3
            case yq3 => (intro wq hSw; exact exec_load_mid _ _ 37 (.tmp 9) rfl Bb 0 rfl (vl (getN x jx) (getS x jx)) _ _ hSw.2.2 Try.underlying37 rfl vl_info)
            case rq3 =>
            try simp only [Act.put, List.setIfInBounds_toArray, List.set_cons_zero, List.set_cons_succ, List.getElem_toArray, List.getElem_cons_zero, List.getElem_cons_succ]
            refine wpAnyH_ready (rs := [2]) (by kernel_rfl) (by simp) ?_
            refine AllReadyH.cons rfl (fun K hK => ?_) AllReadyH.nil
            go_simp
            refine (get_any wb.drew x jx HKX.out).mono ?_
            rintro r wc ⟨rfl, tc⟩
            have Tc := Lib.hid (((Turn.refl (fun _ => False) wb).drew).trans tc (fun _ _ => id))
            clear tc
            refine hK.out _ _ ⟨rangeAt_turn HWX.out Tc.out id, rangeAt_turn HWO.out Tc.out id, rangeAt_turn HWW.out Tc.out id⟩ (fun _ => ?_)
            clear hK K
            try simp only [Act.put, List.setIfInBounds_toArray, List.set_cons_zero, List.set_cons_succ, List.getElem_toArray, List.getElem_cons_zero, List.getElem_cons_succ]
            refine wpAnyH_take (i := 4) (v := .bool false) rfl (by kernel_rfl) (by kernel_rfl) (by kernel_rfl) (fun _ _ _ h => h) (Or.inl ⟨by rfl, ?yq4⟩) (by assumption) ?rq4
            case yq4 => (intro wq hSw; exact exec_neq_vlsame _ _ rfl _ _ wq rfl rfl)
            case rq4 =>
            try simp only [Act.put, List.setIfInBounds_toArray, List.set_cons_zero, List.set_cons_succ, List.getElem_toArray, List.getElem_cons_zero, List.getElem_cons_succ]
            refine wpAnyH_take (i := 5) (v := .bool false) rfl (by kernel_rfl) (by kernel_rfl) (by kernel_rfl) (fun _ _ _ h => h) (Or.inl ⟨by rfl, ?yq5⟩) (by assumption) ?rq5
            case yq5 => (intro wq hSw; (try simp only [List.getElem_toArray, List.getElem_cons_zero, List.getElem_cons_succ]); go_simp; (try with_reducible rfl); all_goals (try omega))
            case rq5 =>
            try simp only [Act.put, List.setIfInBounds_toArray, List.set_cons_zero, List.set_cons_succ, List.getElem_toArray, List.getElem_cons_zero, List.getElem_cons_succ]
            refine wpAnyH_take (i := 6) (v := .agg o.vals.toArray) rfl (by kernel_rfl) (by kernel_rfl) (by kernel_rfl) (fun _ _ _ h => h) (Or.inl ⟨by rfl, ?yq6⟩) (by assumption) ?rq6
            case yq6 => (intro wq hSw; exact exec_load_mid _ _ 24 (.tmp 3) rfl X 0 rfl o.vals _ _ hSw.2.1 Try.underlying24 rfl el_info)
            case rq6 =>
            try simp only [Act.put, List.setIfInBounds_toArray, List.set_cons_zero, List.set_cons_succ, List.getElem_toArray, List.getElem_cons_zero, List.getElem_cons_succ]
            refine wpAnyH_take (i := 7) (v := .int .i64 jx) rfl (by kernel_rfl) (by kernel_rfl) (by kernel_rfl) (fun _ _ _ h => h) (Or.inl ⟨by rfl, ?yq7⟩) (by assumption) ?rq7
            case yq7 => (intro wq hSw; (try simp only [List.getElem_toArray, List.getElem_cons_zero, List.getElem_cons_succ]); go_simp; (try with_reducible rfl); all_goals (try omega))
            case rq7 =>
            try simp only [Act.put, List.setIfInBounds_toArray, List.set_cons_zero, List.set_cons_succ, List.getElem_toArray, List.getElem_cons_zero, List.getElem_cons_succ]
            refine wpAnyH_take (i := 9) (v := .agg o.vals.toArray) rfl (by kernel_rfl) (by kernel_rfl) (by kernel_rfl) (fun _ _ _ h => h) (Or.inl ⟨by rfl, ?yq8⟩) (by assumption) ?rq8
            case yq8 => (intro wq hSw; exact exec_load_mid _ _ 24 (.tmp 3) rfl X 0 rfl o.vals _ _ hSw.2.1 Try.underlying24 rfl el_info)
            case rq8 =>
            try simp only [Act.put, List.setIfInBounds_toArray, List.set_cons_zero, List.set_cons_succ, List.getElem_toArray, List.getElem_cons_zero, List.getElem_cons_succ]
            refine wpAnyH_take (i := 10) (v := .int .i64 jx) rfl (by kernel_rfl) (by kernel_rfl) (by kernel_rfl) (fun _ _ _ h => h) (Or.inl ⟨by rfl, ?yq9⟩) (by assumption) ?rq9
            case yq9 => (intro wq hSw; (try simp only [List.getElem_toArray, List.getElem_cons_zero, List.getElem_cons_succ]); go_simp; (try with_reducible rfl); all_goals (try omega))
            case rq9 =>
            try simp only [Act.put, List.setIfInBounds_toArray, List.set_cons_zero, List.set_cons_succ, List.getElem_toArray, List.getElem_cons_zero, List.getElem_cons_succ]
            refine wpAnyH_ready (rs := [8]) (by kernel_rfl) (by simp) ?_
            refine AllReadyH.cons rfl (fun K hK => ?_) AllReadyH.nil
            go_simp
            refine (get_any wc o jx HKD.out).mono ?_
            rintro r wd ⟨rfl, td⟩
            have Td := Lib.hid (Tc.out.trans td (fun _ _ => id))
            clear td
            refine hK.out _ _ ⟨rangeAt_turn HWX.out Td.out id, rangeAt_turn HWO.out Td.out id, rangeAt_turn HWW.out Td.out id⟩ (fun _ => ?_)
            clear hK K
            try simp only [Act.put, List.setIfInBounds_toArray, List.set_cons_zero, List.set_cons_succ, List.getElem_toArray, List.getElem_cons_zero, List.getElem_cons_succ]
            refine wpAnyH_ready (rs := [11]) (by kernel_rfl) (by simp) ?_
            refine AllReadyH.cons rfl (fun K hK => ?_) AllReadyH.nil
            go_simp
            refine (value_any wd o jx HKD.out).mono ?_
            rintro r we ⟨rfl, te⟩
            have Te := Lib.hid (Td.out.trans te (fun _ _ => id))
            clear te
            refine hK.out _ _ ⟨rangeAt_turn HWX.out Te.out id, rangeAt_turn HWO.out Te.out id, rangeAt_turn HWW.out Te.out id⟩ (fun _ => ?_)
            clear hK K
            try simp only [Act.put, List.setIfInBounds_toArray, List.set_cons_zero, List.set_cons_succ, List.getElem_toArray, List.getElem_cons_zero, List.getElem_cons_succ]
            refine wpAnyH_take (i := 12) (v := .bool false) rfl (by kernel_rfl) (by kernel_rfl) (by kernel_rfl) (fun _ _ _ h => h) (Or.inl ⟨by rfl, ?yq10⟩) (by assumption) ?rq10
            case yq10 => (intro wq hSw; exact exec_neq_vlsame _ _ rfl _ _ wq rfl rfl)
            case rq10 =>
            try simp only [Act.put, List.setIfInBounds_toArray, List.set_cons_zero, List.set_cons_succ, List.getElem_toArray, List.getElem_cons_zero, List.getElem_cons_succ]
            refine wpAnyH_take (i := 13) (v := .bool false) rfl (by kernel_rfl) (by kernel_rfl) (by kernel_rfl) (fun _ _ _ h => h) (Or.inl ⟨by rfl, ?yq11⟩) (by assumption) ?rq11
            case yq11 => (intro wq hSw; (try simp only [List.getElem_toArray, List.getElem_cons_zero, List.getElem_cons_succ]); go_simp; (try with_reducible rfl); all_goals (try omega))
            case rq11 =>
            try simp only [Act.put, List.setIfInBounds_toArray, List.set_cons_zero, List.set_cons_succ, List.getElem_toArray, List.getElem_cons_zero, List.getElem_cons_succ]
            refine wpAnyH_done (by kernel_rfl) ?_ _
            clear hHeld
            have HHe := Lib.hid ((Te.out.block Ba (Array.getElem?_eq_some_iff.1 (HHb2.out)).1 id).trans (HHb2.out))
            have HXe := Lib.hid ((Te.out.block X (Array.getElem?_eq_some_iff.1 (HXb.out)).1 id).trans (HXb.out))
            have HVe := Lib.hid ((Te.out.block V (Array.getElem?_eq_some_iff.1 (HVb.out)).1 id).trans (HVb.out))
            have HTe := Lib.hid (HTb.out.trans Te.out (fun _ _ => id))
            try clear k0 k1 z0 z1
            go_wp2_with fail
            go_roundw
            case rel => exact ⟨k + 1, by have := HKK.out; omega, by have := HKK.out; exact congrArg (Value.int .i64) (by omega), HHe.out, HXe.out, HVe.out, HTe.out⟩
            case measure => first | (simp [intOf]; done) | (simp [intOf]; omega)
          · have e2 : decide (0 ≤ f) = true := decide_eq_true (by omega)
            have e3 : decide (f < 9) = false := decide_eq_false (by omega)
            clear hne hkf
            go_wp2_with fail
            have HWX := Lib.hid (range_of (HHb2.out))
            have HWO := Lib.hid (range_of (HXb.out))
            have HWW := Lib.hid (range_of (HWN.out))
            refine wp_region_held_drew (S := fun wq => wq.rangeAt Ba 0 x.vals ∧ wq.rangeAt X 0 o.vals ∧ wq.rangeAt Bb 0 (vl (getN x jx) (getS x jx))) (by kernel_rfl) ⟨HWX.out, HWO.out, HWW.out⟩ (fun hHeld => ?_)
            refine wpAnyH_take (i := 0) (v := .agg x.vals.toArray) rfl (by kernel_rfl) (by kernel_rfl) (by kernel_rfl) (fun _ _ _ h => h) (Or.inl ⟨by rfl, ?yq12⟩) (by assumption) ?rq12
            case yq12 => (intro wq hSw; exact exec_load_mid _ _ 24 (.tmp 7) rfl Ba 0 rfl x.vals _ _ hSw.1 Try.underlying24 rfl el_info)
            case rq12 =>
            try simp only [Act.put, List.setIfInBounds_toArray, List.set_cons_zero, List.set_cons_succ, List.getElem_toArray, List.getElem_cons_zero, List.getElem_cons_succ]
            refine wpAnyH_take (i := 1) (v := .int .i64 jx) rfl (by kernel_rfl) (by kernel_rfl) (by kernel_rfl) (fun _ _ _ h => h) (Or.inl ⟨by rfl, ?yq13⟩) (by assumption) ?rq13
            case yq13 => (intro wq hSw; (try simp only [List.getElem_toArray, List.getElem_cons_zero, List.getElem_cons_succ]); go_simp; (try with_reducible rfl); all_goals (try omega))
            case rq13 =>
            try simp only [Act.put, List.setIfInBounds_toArray, List.set_cons_zero, List.set_cons_succ, List.getElem_toArray, List.getElem_cons_zero, List.getElem_cons_succ]
            refine wpAnyH_take (i := 3) (v := .agg (vl (getN x jx) (getS x jx)).toArray) rfl (by kernel_rfl) (by kernel_rfl) (by kernel_rfl) (fun _ _ _ h => h) (Or.inl ⟨by rfl, ?yq14⟩) (by assumption) ?rq14
            case yq14 => (intro wq hSw; exact exec_load_mid _ _ 37 (.tmp 9) rfl Bb 0 rfl (vl (getN x jx) (getS x jx)) _ _ hSw.2.2 Try.underlying37 rfl vl_info)
            case rq14 =>
            try simp only [Act.put, List.setIfInBounds_toArray, List.set_cons_zero, List.set_cons_succ, List.getElem_toArray, List.getElem_cons_zero, List.getElem_cons_succ]
            refine wpAnyH_ready (rs := [2]) (by kernel_rfl) (by simp) ?_
            refine AllReadyH.cons rfl (fun K hK => ?_) AllReadyH.nil
            go_simp
            refine (get_any wb.drew x jx HKX.out).mono ?_
            rintro r wc ⟨rfl, tc⟩
            have Tc := Lib.hid (((Turn.refl (fun _ => False) wb).drew).trans tc (fun _ _ => id))
            clear tc
            refine hK.out _ _ ⟨rangeAt_turn HWX.out Tc.out id, rangeAt_turn HWO.out Tc.out id, rangeAt_turn HWW.out Tc.out id⟩ (fun _ => ?_)
            clear hK K
            try simp only [Act.put, List.setIfInBounds_toArray, List.set_cons_zero, List.set_cons_succ, List.getElem_toArray, List.getElem_cons_zero, List.getElem_cons_succ]
            refine wpAnyH_take (i := 4) (v := .bool false) rfl (by kernel_rfl) (by kernel_rfl) (by kernel_rfl) (fun _ _ _ h => h) (Or.inl ⟨by rfl, ?yq15⟩) (by assumption) ?rq15
            case yq15 => (intro wq hSw; exact exec_neq_vlsame _ _ rfl _ _ wq rfl rfl)
            case rq15 =>
            try simp only [Act.put, List.setIfInBounds_toArray, List.set_cons_zero, List.set_cons_succ, List.getElem_toArray, List.getElem_cons_zero, List.getElem_cons_succ]
            refine wpAnyH_take (i := 5) (v := .bool false) rfl (by kernel_rfl) (by kernel_rfl) (by kernel_rfl) (fun _ _ _ h => h) (Or.inl ⟨by rfl, ?yq16⟩) (by assumption) ?rq16
            case yq16 => (intro wq hSw; (try simp only [List.getElem_toArray, List.getElem_cons_zero, List.getElem_cons_succ]); go_simp; (try with_reducible rfl); all_goals (try omega))
            case rq16 =>
            try simp only [Act.put, List.setIfInBounds_toArray, List.set_cons_zero, List.set_cons_succ, List.getElem_toArray, List.getElem_cons_zero, List.getElem_cons_succ]
            refine wpAnyH_take (i := 6) (v := .agg o.vals.toArray) rfl (by kernel_rfl) (by kernel_rfl) (by kernel_rfl) (fun _ _ _ h => h) (Or.inl ⟨by rfl, ?yq17⟩) (by assumption) ?rq17
            case yq17 => (intro wq hSw; exact exec_load_mid _ _ 24 (.tmp 3) rfl X 0 rfl o.vals _ _ hSw.2.1 Try.underlying24 rfl el_info)
            case rq17 =>
            try simp only [Act.put, List.setIfInBounds_toArray, List.set_cons_zero, List.set_cons_succ, List.getElem_toArray, List.getElem_cons_zero, List.getElem_cons_succ]
            refine wpAnyH_take (i := 7) (v := .int .i64 jx) rfl (by kernel_rfl) (by kernel_rfl) (by kernel_rfl) (fun _ _ _ h => h) (Or.inl ⟨by rfl, ?yq18⟩) (by assumption) ?rq18
            case yq18 => (intro wq hSw; (try simp only [List.getElem_toArray, List.getElem_cons_zero, List.getElem_cons_succ]); go_simp; (try with_reducible rfl); all_goals (try omega))
            case rq18 =>
            try simp only [Act.put, List.setIfInBounds_toArray, List.set_cons_zero, List.set_cons_succ, List.getElem_toArray, List.getElem_cons_zero, List.getElem_cons_succ]
            refine wpAnyH_take (i := 9) (v := .agg o.vals.toArray) rfl (by kernel_rfl) (by kernel_rfl) (by kernel_rfl) (fun _ _ _ h => h) (Or.inl ⟨by rfl, ?yq19⟩) (by assumption) ?rq19
            case yq19 => (intro wq hSw; exact exec_load_mid _ _ 24 (.tmp 3) rfl X 0 rfl o.vals _ _ hSw.2.1 Try.underlying24 rfl el_info)
            case rq19 =>
            try simp only [Act.put, List.setIfInBounds_toArray, List.set_cons_zero, List.set_cons_succ, List.getElem_toArray, List.getElem_cons_zero, List.getElem_cons_succ]
            refine wpAnyH_take (i := 10) (v := .int .i64 jx) rfl (by kernel_rfl) (by kernel_rfl) (by kernel_rfl) (fun _ _ _ h => h) (Or.inl ⟨by rfl, ?yq20⟩) (by assumption) ?rq20
            case yq20 => (intro wq hSw; (try simp only [List.getElem_toArray, List.getElem_cons_zero, List.getElem_cons_succ]); go_simp; (try with_reducible rfl); all_goals (try omega))
            case rq20 =>
            try simp only [Act.put, List.setIfInBounds_toArray, List.set_cons_zero, List.set_cons_succ, List.getElem_toArray, List.getElem_cons_zero, List.getElem_cons_succ]
            refine wpAnyH_ready (rs := [8]) (by kernel_rfl) (by simp) ?_
            refine AllReadyH.cons rfl (fun K hK => ?_) AllReadyH.nil
            go_simp
            refine (get_any wc o jx HKD.out).mono ?_
            rintro r wd ⟨rfl, td⟩
            have Td := Lib.hid (Tc.out.trans td (fun _ _ => id))
            clear td
            refine hK.out _ _ ⟨rangeAt_turn HWX.out Td.out id, rangeAt_turn HWO.out Td.out id, rangeAt_turn HWW.out Td.out id⟩ (fun _ => ?_)
            clear hK K
            try simp only [Act.put, List.setIfInBounds_toArray, List.set_cons_zero, List.set_cons_succ, List.getElem_toArray, List.getElem_cons_zero, List.getElem_cons_succ]
            refine wpAnyH_ready (rs := [11]) (by kernel_rfl) (by simp) ?_
            refine AllReadyH.cons rfl (fun K hK => ?_) AllReadyH.nil
            go_simp
            refine (value_any wd o jx HKD.out).mono ?_
            rintro r we ⟨rfl, te⟩
            have Te := Lib.hid (Td.out.trans te (fun _ _ => id))
            clear te
            refine hK.out _ _ ⟨rangeAt_turn HWX.out Te.out id, rangeAt_turn HWO.out Te.out id, rangeAt_turn HWW.out Te.out id⟩ (fun _ => ?_)
            clear hK K
            try simp only [Act.put, List.setIfInBounds_toArray, List.set_cons_zero, List.set_cons_succ, List.getElem_toArray, List.getElem_cons_zero, List.getElem_cons_succ]
            refine wpAnyH_take (i := 12) (v := .bool false) rfl (by kernel_rfl) (by kernel_rfl) (by kernel_rfl) (fun _ _ _ h => h) (Or.inl ⟨by rfl, ?yq21⟩) (by assumption) ?rq21
            case yq21 => (intro wq hSw; exact exec_neq_vlsame _ _ rfl _ _ wq rfl rfl)
            case rq21 =>
            try simp only [Act.put, List.setIfInBounds_toArray, List.set_cons_zero, List.set_cons_succ, List.getElem_toArray, List.getElem_cons_zero, List.getElem_cons_succ]
            refine wpAnyH_take (i := 13) (v := .bool false) rfl (by kernel_rfl) (by kernel_rfl) (by kernel_rfl) (fun _ _ _ h => h) (Or.inl ⟨by rfl, ?yq22⟩) (by assumption) ?rq22
            case yq22 => (intro wq hSw; (try simp only [List.getElem_toArray, List.getElem_cons_zero, List.getElem_cons_succ]); go_simp; (try with_reducible rfl); all_goals (try omega))
            case rq22 =>
            try simp only [Act.put, List.setIfInBounds_toArray, List.set_cons_zero, List.set_cons_succ, List.getElem_toArray, List.getElem_cons_zero, List.getElem_cons_succ]
            refine wpAnyH_done (by kernel_rfl) ?_ _
            clear hHeld
            have HHe := Lib.hid ((Te.out.block Ba (Array.getElem?_eq_some_iff.1 (HHb2.out)).1 id).trans (HHb2.out))
            have HXe := Lib.hid ((Te.out.block X (Array.getElem?_eq_some_iff.1 (HXb.out)).1 id).trans (HXb.out))
            have HVe := Lib.hid ((Te.out.block V (Array.getElem?_eq_some_iff.1 (HVb.out)).1 id).trans (HVb.out))
            have HTe := Lib.hid (HTb.out.trans Te.out (fun _ _ => id))
            try clear k0 k1 z0 z1
            go_wp2_with fail
            go_roundw
            case rel => exact ⟨k + 1, by have := HKK.out; omega, by have := HKK.out; exact congrArg (Value.int .i64) (by omega), HHe.out, HXe.out, HVe.out, HTe.out⟩
            case measure => first | (simp [intOf]; done) | (simp [intOf]; omega)
        · have hxk : getN x jx = getN o jx ∧ getS x jx = getS o jx := by rw [← HXV.out]; exact get_set o f n s jx hne
          have HWN := Lib.hid (show wb.heap[Bb]? = some (.cells (vl (getN x jx) (getS x jx)).toArray 37 (0, 0)) from by rw [hxk.1, hxk.2]; exact HHb.out)
          clear hxk
          have e1 : (jx == f) = false := by simpa using hne
          clear hne hkf
          go_wp2_with fail
          have HWX := Lib.hid (range_of (HHb2.out))
          have HWO := Lib.hid (range_of (HXb.out))
          have HWW := Lib.hid (range_of (HWN.out))
          refine wp_region_held_drew (S := fun wq => wq.rangeAt Ba 0 x.vals ∧ wq.rangeAt X 0 o.vals ∧ wq.rangeAt Bb 0 (vl (getN x jx) (getS x jx))) (by kernel_rfl) ⟨HWX.out, HWO.out, HWW.out⟩ (fun hHeld => ?_)
          refine wpAnyH_take (i := 0) (v := .agg x.vals.toArray) rfl (by kernel_rfl) (by kernel_rfl) (by kernel_rfl) (fun _ _ _ h => h) (Or.inl ⟨by rfl, ?yq23⟩) (by assumption) ?rq23
          case yq23 => (intro wq hSw; exact exec_load_mid _ _ 24 (.tmp 7) rfl Ba 0 rfl x.vals _ _ hSw.1 Try.underlying24 rfl el_info)
          case rq23 =>
          try simp only [Act.put, List.setIfInBounds_toArray, List.set_cons_zero, List.set_cons_succ, List.getElem_toArray, List.getElem_cons_zero, List.getElem_cons_succ]
          refine wpAnyH_take (i := 1) (v := .int .i64 jx) rfl (by kernel_rfl) (by kernel_rfl) (by kernel_rfl) (fun _ _ _ h => h) (Or.inl ⟨by rfl, ?yq24⟩) (by assumption) ?rq24
          case yq24 => (intro wq hSw; (try simp only [List.getElem_toArray, List.getElem_cons_zero, List.getElem_cons_succ]); go_simp; (try with_reducible rfl); all_goals (try omega))
          case rq24 =>
          try simp only [Act.put, List.setIfInBounds_toArray, List.set_cons_zero, List.set_cons_succ, List.getElem_toArray, List.getElem_cons_zero, List.getElem_cons_succ]
          refine wpAnyH_take (i := 3) (v := .agg (vl (getN x jx) (getS x jx)).toArray) rfl (by kernel_rfl) (by kernel_rfl) (by kernel_rfl) (fun _ _ _ h => h) (Or.inl ⟨by rfl, ?yq25⟩) (by assumption) ?rq25
          case yq25 => (intro wq hSw; exact exec_load_mid _ _ 37 (.tmp 9) rfl Bb 0 rfl (vl (getN x jx) (getS x jx)) _ _ hSw.2.2 Try.underlying37 rfl vl_info)
          case rq25 =>
          try simp only [Act.put, List.setIfInBounds_toArray, List.set_cons_zero, List.set_cons_succ, List.getElem_toArray, List.getElem_cons_zero, List.getElem_cons_succ]
          refine wpAnyH_ready (rs := [2]) (by kernel_rfl) (by simp) ?_
          refine AllReadyH.cons rfl (fun K hK => ?_) AllReadyH.nil
          go_simp
          refine (get_any wb.drew x jx HKX.out).mono ?_
          rintro r wc ⟨rfl, tc⟩
          have Tc := Lib.hid (((Turn.refl (fun _ => False) wb).drew).trans tc (fun _ _ => id))
          clear tc
          refine hK.out _ _ ⟨rangeAt_turn HWX.out Tc.out id, rangeAt_turn HWO.out Tc.out id, rangeAt_turn HWW.out Tc.out id⟩ (fun _ => ?_)
          clear hK K
          try simp only [Act.put, List.setIfInBounds_toArray, List.set_cons_zero, List.set_cons_succ, List.getElem_toArray, List.getElem_cons_zero, List.getElem_cons_succ]
          refine wpAnyH_take (i := 4) (v := .bool false) rfl (by kernel_rfl) (by kernel_rfl) (by kernel_rfl) (fun _ _ _ h => h) (Or.inl ⟨by rfl, ?yq26⟩) (by assumption) ?rq26
          case yq26 => (intro wq hSw; exact exec_neq_vlsame _ _ rfl _ _ wq rfl rfl)
          case rq26 =>
          try simp only [Act.put, List.setIfInBounds_toArray, List.set_cons_zero, List.set_cons_succ, List.getElem_toArray, List.getElem_cons_zero, List.getElem_cons_succ]
          refine wpAnyH_take (i := 5) (v := .bool false) rfl (by kernel_rfl) (by kernel_rfl) (by kernel_rfl) (fun _ _ _ h => h) (Or.inl ⟨by rfl, ?yq27⟩) (by assumption) ?rq27
          case yq27 => (intro wq hSw; (try simp only [List.getElem_toArray, List.getElem_cons_zero, List.getElem_cons_succ]); go_simp; (try with_reducible rfl); all_goals (try omega))
          case rq27 =>
          try simp only [Act.put, List.setIfInBounds_toArray, List.set_cons_zero, List.set_cons_succ, List.getElem_toArray, List.getElem_cons_zero, List.getElem_cons_succ]
          refine wpAnyH_take (i := 6) (v := .agg o.vals.toArray) rfl (by kernel_rfl) (by kernel_rfl) (by kernel_rfl) (fun _ _ _ h => h) (Or.inl ⟨by rfl, ?yq28⟩) (by assumption) ?rq28
          case yq28 => (intro wq hSw; exact exec_load_mid _ _ 24 (.tmp 3) rfl X 0 rfl o.vals _ _ hSw.2.1 Try.underlying24 rfl el_info)
          case rq28 =>
          try simp only [Act.put, List.setIfInBounds_toArray, List.set_cons_zero, List.set_cons_succ, List.getElem_toArray, List.getElem_cons_zero, List.getElem_cons_succ]
          refine wpAnyH_take (i := 7) (v := .int .i64 jx) rfl (by kernel_rfl) (by kernel_rfl) (by kernel_rfl) (fun _ _ _ h => h) (Or.inl ⟨by rfl, ?yq29⟩) (by assumption) ?rq29
          case yq29 => (intro wq hSw; (try simp only [List.getElem_toArray, List.getElem_cons_zero, List.getElem_cons_succ]); go_simp; (try with_reducible rfl); all_goals (try omega))
          case rq29 =>
          try simp only [Act.put, List.setIfInBounds_toArray, List.set_cons_zero, List.set_cons_succ, List.getElem_toArray, List.getElem_cons_zero, List.getElem_cons_succ]
          refine wpAnyH_take (i := 9) (v := .agg o.vals.toArray) rfl (by kernel_rfl) (by kernel_rfl) (by kernel_rfl) (fun _ _ _ h => h) (Or.inl ⟨by rfl, ?yq30⟩) (by assumption) ?rq30
          case yq30 => (intro wq hSw; exact exec_load_mid _ _ 24 (.tmp 3) rfl X 0 rfl o.vals _ _ hSw.2.1 Try.underlying24 rfl el_info)
          case rq30 =>
          try simp only [Act.put, List.setIfInBounds_toArray, List.set_cons_zero, List.set_cons_succ, List.getElem_toArray, List.getElem_cons_zero, List.getElem_cons_succ]
          refine wpAnyH_take (i := 10) (v := .int .i64 jx) rfl (by kernel_rfl) (by kernel_rfl) (by kernel_rfl) (fun _ _ _ h => h) (Or.inl ⟨by rfl, ?yq31⟩) (by assumption) ?rq31
          case yq31 => (intro wq hSw; (try simp only [List.getElem_toArray, List.getElem_cons_zero, List.getElem_cons_succ]); go_simp; (try with_reducible rfl); all_goals (try omega))
          case rq31 =>
          try simp only [Act.put, List.setIfInBounds_toArray, List.set_cons_zero, List.set_cons_succ, List.getElem_toArray, List.getElem_cons_zero, List.getElem_cons_succ]
          refine wpAnyH_ready (rs := [8]) (by kernel_rfl) (by simp) ?_
          refine AllReadyH.cons rfl (fun K hK => ?_) AllReadyH.nil
          go_simp
          refine (get_any wc o jx HKD.out).mono ?_
          rintro r wd ⟨rfl, td⟩
          have Td := Lib.hid (Tc.out.trans td (fun _ _ => id))
          clear td
          refine hK.out _ _ ⟨rangeAt_turn HWX.out Td.out id, rangeAt_turn HWO.out Td.out id, rangeAt_turn HWW.out Td.out id⟩ (fun _ => ?_)
          clear hK K
          try simp only [Act.put, List.setIfInBounds_toArray, List.set_cons_zero, List.set_cons_succ, List.getElem_toArray, List.getElem_cons_zero, List.getElem_cons_succ]
          refine wpAnyH_ready (rs := [11]) (by kernel_rfl) (by simp) ?_
          refine AllReadyH.cons rfl (fun K hK => ?_) AllReadyH.nil
          go_simp
          refine (value_any wd o jx HKD.out).mono ?_
          rintro r we ⟨rfl, te⟩
          have Te := Lib.hid (Td.out.trans te (fun _ _ => id))
          clear te
          refine hK.out _ _ ⟨rangeAt_turn HWX.out Te.out id, rangeAt_turn HWO.out Te.out id, rangeAt_turn HWW.out Te.out id⟩ (fun _ => ?_)
          clear hK K
          try simp only [Act.put, List.setIfInBounds_toArray, List.set_cons_zero, List.set_cons_succ, List.getElem_toArray, List.getElem_cons_zero, List.getElem_cons_succ]
          refine wpAnyH_take (i := 12) (v := .bool false) rfl (by kernel_rfl) (by kernel_rfl) (by kernel_rfl) (fun _ _ _ h => h) (Or.inl ⟨by rfl, ?yq32⟩) (by assumption) ?rq32
          case yq32 => (intro wq hSw; exact exec_neq_vlsame _ _ rfl _ _ wq rfl rfl)
          case rq32 =>
          try simp only [Act.put, List.setIfInBounds_toArray, List.set_cons_zero, List.set_cons_succ, List.getElem_toArray, List.getElem_cons_zero, List.getElem_cons_succ]
          refine wpAnyH_take (i := 13) (v := .bool false) rfl (by kernel_rfl) (by kernel_rfl) (by kernel_rfl) (fun _ _ _ h => h) (Or.inl ⟨by rfl, ?yq33⟩) (by assumption) ?rq33
          case yq33 => (intro wq hSw; (try simp only [List.getElem_toArray, List.getElem_cons_zero, List.getElem_cons_succ]); go_simp; (try with_reducible rfl); all_goals (try omega))
          case rq33 =>
          try simp only [Act.put, List.setIfInBounds_toArray, List.set_cons_zero, List.set_cons_succ, List.getElem_toArray, List.getElem_cons_zero, List.getElem_cons_succ]
          refine wpAnyH_done (by kernel_rfl) ?_ _
          clear hHeld
          have HHe := Lib.hid ((Te.out.block Ba (Array.getElem?_eq_some_iff.1 (HHb2.out)).1 id).trans (HHb2.out))
          have HXe := Lib.hid ((Te.out.block X (Array.getElem?_eq_some_iff.1 (HXb.out)).1 id).trans (HXb.out))
          have HVe := Lib.hid ((Te.out.block V (Array.getElem?_eq_some_iff.1 (HVb.out)).1 id).trans (HVb.out))
          have HTe := Lib.hid (HTb.out.trans Te.out (fun _ _ => id))
          try clear k0 k1 z0 z1
          go_wp2_with fail
          go_roundw
          case rel => exact ⟨k + 1, by have := HKK.out; omega, by have := HKK.out; exact congrArg (Value.int .i64) (by omega), HHe.out, HXe.out, HVe.out, HTe.out⟩
          case measure => first | (simp [intOf]; done) | (simp [intOf]; omega)
    · have d1 : decide (jx < 10) = false := decide_eq_false hlt
      go_upto_region 14 with fail
      go_cut [10] from 12 (fun v wx => v = .bool (txtF f) ∧ wx = wr)
      case first =>
        by_cases h3 : f = 3
        · subst h3
          go_wp2_with fail
          go_meet
          exact ⟨rfl, rfl⟩
        · have e1 : (f == 3) = false := by simpa using h3
          by_cases h5 : 5 < f
          · have e2 : decide (5 < f) = true := decide_eq_true h5
            by_cases h9 : f < 9
            · have e3 : decide (f < 9) = true := decide_eq_true h9
              go_wp2_with fail
              go_meet
              exact ⟨by unfold txtF; rw [decide_eq_true (by omega)], rfl⟩
            · have e3 : decide (f < 9) = false := decide_eq_false h9
              go_wp2_with fail
              go_meet
              exact ⟨by unfold txtF; rw [decide_eq_false (by omega)], rfl⟩
          · have e2 : decide (5 < f) = false := decide_eq_false h5
            go_wp2_with fail
            go_meet
            exact ⟨by unfold txtF; rw [decide_eq_false (by omega)], rfl⟩
      case rest =>
      obtain ⟨rfl, rfl⟩ := hcut
      have k0 : wc.cell? ⟨V, 0, none⟩ = some (.int .i64 n) := by rw [cell_of_row wc V 0 _ 37 (0, 0) HVV.out]; rfl
      have k1 : wc.cell? ⟨V, 1, none⟩ = some (.string s) := by rw [cell_of_row wc V 1 _ 37 (0, 0) HVV.out]; rfl
      go_upto_region 15 with fail
      go_cut [10, 11] from 12 (fun u v wx => v = .bool (fitsB f n s) ∧ wx = wc)
      case first =>
        by_cases ho1 : f < 0 ∨ 8 < f
        · have HF := Lib.hid (fits_out (n := n) (s := s) ho1)
          by_cases h0 : f < 0
          · have e1 : decide (0 ≤ f) = false := decide_eq_false (by omega)
            clear ho1
            go_wp2_with fail
            all_goals go_meet
            all_goals exact ⟨by (rw [HF.out]); (try rw [decide_eq_true HSE.out]); (try rw [decide_eq_false HSE.out]); first | done | rfl | (simp; done) | (simp; omega) | (simp [*]; done) | (simp [*]; omega), rfl⟩
          · have e1 : decide (0 ≤ f) = true := decide_eq_true (by omega)
            have e2 : decide (f < 9) = false := decide_eq_false (by omega)
            clear ho1
            go_wp2_with fail
            all_goals go_meet
            all_goals exact ⟨by (rw [HF.out]); (try rw [decide_eq_true HSE.out]); (try rw [decide_eq_false HSE.out]); first | done | rfl | (simp; done) | (simp; omega) | (simp [*]; done) | (simp [*]; omega), rfl⟩
        · have e1 : decide (0 ≤ f) = true := decide_eq_true (by omega)
          have e2 : decide (f < 9) = true := decide_eq_true (by omega)
          rcases (by omega : f = 0 ∨ (f = 3 ∨ f = 6 ∨ f = 7 ∨ f = 8) ∨ (f = 1 ∨ f = 2 ∨ f = 4 ∨ f = 5)) with h0 | h3 | h1
          · subst h0
            have ht : txtF 0 = false := rfl
            rw [ht]
            have HF := Lib.hid (fits_kind (n := n) (s := s))
            clear ho1 ht
            by_cases hs : s = e0
            · have hsl : s.toList = [] := by rw [hs]; exact e0_list
              have hsi : s.toList.isEmpty = true := by rw [hsl]; rfl
              have HSE := Lib.hid hs
              clear hs
              by_cases hn0 : 0 ≤ n
              · have e3 : decide (0 ≤ n) = true := decide_eq_true hn0
                by_cases hn1 : n < 256
                · have e4 : decide (n < 256) = true := decide_eq_true hn1
                  go_wp2_with fail
                  all_goals go_meet
                  all_goals exact ⟨by (rw [HF.out]); (try rw [decide_eq_true HSE.out]); (try rw [decide_eq_false HSE.out]); first | done | rfl | (simp; done) | (simp; omega) | (simp [*]; done) | (simp [*]; omega), rfl⟩
                · have e4 : decide (n < 256) = false := decide_eq_false hn1
                  go_wp2_with fail
                  all_goals go_meet
                  all_goals exact ⟨by (rw [HF.out]); (try rw [decide_eq_true HSE.out]); (try rw [decide_eq_false HSE.out]); first | done | rfl | (simp; done) | (simp; omega) | (simp [*]; done) | (simp [*]; omega), rfl⟩
              · have e3 : decide (0 ≤ n) = false := decide_eq_false hn0
                go_wp2_with fail
                all_goals go_meet
                all_goals exact ⟨by (rw [HF.out]); (try rw [decide_eq_true HSE.out]); (try rw [decide_eq_false HSE.out]); first | done | rfl | (simp; done) | (simp; omega) | (simp [*]; done) | (simp [*]; omega), rfl⟩
            · have hs3 : ¬ s.toList = [] := fun h => hs (toList_inj (by rw [h]; exact e0_list.symm))
              have hsi : s.toList.isEmpty = false := by simpa using hs3
              have HSE := Lib.hid hs
              clear hs
              go_wp2_with fail
              all_goals go_meet
              all_goals exact ⟨by (rw [HF.out]); (try rw [decide_eq_true HSE.out]); (try rw [decide_eq_false HSE.out]); first | done | rfl | (simp; done) | (simp; omega) | (simp [*]; done) | (simp [*]; omega), rfl⟩
          · have ht : txtF f = true := by unfold txtF; exact decide_eq_true (by omega)
            rw [ht]
            have HF := Lib.hid (fits_text (n := n) (s := s) h3)
            clear ho1 ht h3
            by_cases hn0 : n = 0
            · subst hn0
              go_wp2_with fail
              all_goals go_meet
              all_goals exact ⟨by (rw [HF.out]); (try rw [decide_eq_true HSE.out]); (try rw [decide_eq_false HSE.out]); first | done | rfl | (simp; done) | (simp; omega) | (simp [*]; done) | (simp [*]; omega), rfl⟩
            · have e3 : (n == 0) = false := by simpa using hn0
              go_wp2_with fail
              all_goals go_meet
              all_goals exact ⟨by (rw [HF.out]); (try rw [decide_eq_true HSE.out]); (try rw [decide_eq_false HSE.out]); first | done | rfl | (simp; done) | (simp; omega) | (simp [*]; done) | (simp [*]; omega), rfl⟩
          · have ht : txtF f = false := by unfold txtF; exact decide_eq_false (by omega)
            have e3 : decide (0 < f) = true := decide_eq_true (by omega)
            rw [ht]
            have HF := Lib.hid (fits_num (n := n) (s := s) h1)
            clear ho1 ht h1
            by_cases hs : s = e0
            · have hsl : s.toList = [] := by rw [hs]; exact e0_list
              have hsi : s.toList.isEmpty = true := by rw [hsl]; rfl
              have HSE := Lib.hid hs
              clear hs
              go_wp2_with fail
              all_goals go_meet
              all_goals exact ⟨by (rw [HF.out]); (try rw [decide_eq_true HSE.out]); (try rw [decide_eq_false HSE.out]); first | done | rfl | (simp; done) | (simp; omega) | (simp [*]; done) | (simp [*]; omega), rfl⟩
            · have hs3 : ¬ s.toList = [] := fun h => hs (toList_inj (by rw [h]; exact e0_list.symm))
              have hsi : s.toList.isEmpty = false := by simpa using hs3
              have HSE := Lib.hid hs
              clear hs
              go_wp2_with fail
              all_goals go_meet
              all_goals exact ⟨by (rw [HF.out]); (try rw [decide_eq_true HSE.out]); (try rw [decide_eq_false HSE.out]); first | done | rfl | (simp; done) | (simp; omega) | (simp [*]; done) | (simp [*]; omega), rfl⟩
      case rest =>
      obtain ⟨rfl, hwc2⟩ := hcut
      subst hwc2
      clear k0 k1
      go_wp2_with fail
      refine (awake09 wc).mono ?_
      rintro r w7 ⟨rfl, t7⟩
      have T7 := Lib.hid (HTR.out.trans t7 (fun _ _ => id))
      have HV7 := Lib.hid (rangeAt_turn (range_of HVV.out) t7 id)
      have U7 := Lib.hid t7
      clear t7
      go_wp2_with (with_reducible (show wpList _ _ _ (Oper.mk (some 117) (.load 37 (.tmp 5)) _ _ _ _ :: _) _ _); refine still ?_)
      refine wpList_exec_want (by rfl) _ _ (exec_load_mid _ _ 37 (.tmp 5) rfl V 0 rfl (vl n s) _ _ HV7.out Try.underlying37 rfl vl_info) ?_
      go_wp2_with fail
      refine (fits_any w7 f n s).mono ?_
      rintro r w8 ⟨rfl, t8⟩
      have T8 := Lib.hid (T7.out.trans t8 (fun _ _ => id))
      have i1 := (U7.out.trans t8 (fun _ _ => id)).cells_at (range0 (range_of HH.out))
      have i2 := (U7.out.trans t8 (fun _ _ => id)).cells_at (range0 (range_of HXX.out))
      have hid : x.id = o.id := by rw [← HXV.out]; exact setV_id o f n s
      rw [hid] at i1
      obtain ⟨bb, hbb⟩ : ∃ bb, fitsB f n s = bb := ⟨_, rfl⟩
      rw [hbb]
      have hb1 : (bb == bb) = true := by simp
      clear t8 hid hbb
      go_wp2_with fail
      go_ret
      exact ⟨by first | rfl | simp, T8.out⟩
end Go.Proofs.Ytokjlhpkjebnkaa
