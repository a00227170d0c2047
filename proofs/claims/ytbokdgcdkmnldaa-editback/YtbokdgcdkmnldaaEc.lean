/- Own contracts: edits: the way back as a row; awake. No statement is proved here. -/
import Derived.Test.YtbokdgcdkmnldaaEa
import Derived.Test.YtbokdgcdkmnldaaEb
namespace Go.Proofs.Ytbokdgcdkmnldaa
set_option maxRecDepth 100000
open Go.RowKit
set_option linter.unusedVariables false
set_option linter.unusedSimpArgs false

def mapTo (R : List Ed) (k : Nat) : List Ed := (R.take k).map turnE ++ R.drop k
theorem mapTo_len (R : List Ed) (k : Nat) : (mapTo R k).length = R.length := by simp [mapTo]; omega
theorem mapTo_get (R : List Ed) (k : Nat) (hk : k < R.length) : (mapTo R k).getD k ed0 = R.getD k ed0 := by
  unfold mapTo
  simp only [List.getD_eq_getElem?_getD]
  rw [List.getElem?_append_right (by simp; omega)]
  simp [Nat.min_eq_left (Nat.le_of_lt hk)]
theorem mapTo_set (R : List Ed) (k : Nat) (hk : k < R.length) : (mapTo R k).set k (turnE (R.getD k ed0)) = mapTo R (k + 1) := by
  unfold mapTo
  rw [take_snoc_ed R k hk, List.map_append, List.set_append_right _ _ (by simp; omega)]
  simp only [List.length_map, List.length_take, Nat.min_eq_left (Nat.le_of_lt hk), Nat.sub_self]
  rw [List.drop_eq_getElem_cons hk, List.set_cons_zero]
  simp
theorem mapTo_all (R : List Ed) : mapTo R R.length = R.map turnE := by simp [mapTo]
set_option maxHeartbeats 4000000 in
theorem invert_any (w : World) (v : Value) (l : List Ed) (hv : EdV w v l) (hb : l.length ≤ 1000) : Calls Try.prog 16 #[v] w (NewEds w (invE l)) := by
  have HV := Lib.hid hv
  clear hv
  go_enter Try.func16, Try.ntmps16
  go_wp2_with fail
  refine (clone_eds w _ l HV.out hb).mono ?_
  rintro r w1 ⟨v1, rfl, o1, t1⟩
  obtain ⟨n, hn⟩ : ∃ n, l.length = n := ⟨_, rfl⟩
  obtain ⟨a, c, rfl⟩ : ∃ a c, v1 = .slice a n c := by rw [← hn]; exact own_slice_ed o1
  have HO1 := Lib.hid o1
  have HT1 := Lib.hid t1
  have HN := Lib.hid hn
  have hnb : n ≤ 1000 := by rw [← hn]; exact hb
  clear o1 t1 hn
  go_wp2_with fail
  refine (reverse_any w1 _ a n c l HO1.out HN.out (by rw [← HN.out]; exact hb)).mono ?_
  rintro r w2 ⟨rfl, o2, t2⟩
  have HO2 := Lib.hid o2
  have HT2 := Lib.hid (turn_on_ed (show w1.ownsRow w.heap.size 28 16 _ n (edsV l) from by have := HO1.out; unfold OwE at this; rwa [HN.out] at this) (Nat.le_refl _) HT1.out t2)
  obtain ⟨R, hR⟩ : ∃ R, l.reverse = R := ⟨_, rfl⟩
  have HR := Lib.hid hR
  have HRL := Lib.hid (show R.length = n by rw [← hR, List.length_reverse, HN.out])
  clear o2 t2 hR
  go_wp2_with fail
  go_loopw [12] (fun iv wr => ∃ k : Nat, k ≤ n ∧ iv = .int .i64 (k : Int) ∧ OwE w.heap.size wr (.slice a n c) (mapTo R k) ∧ Turn (fun _ => False) w wr) (fun iv _ => n - (intOf iv).toNat)
  case atStart => exact ⟨0, Nat.zero_le _, rfl, by have := HO2.out; rw [HR.out] at this; simpa [mapTo] using this, HT2.out⟩
  case round =>
    obtain ⟨k, hk, rfl, ho, htr⟩ := hrel
    have HO := Lib.hid ho
    have HT := Lib.hid htr
    clear ho htr
    by_cases hlt : k < n
    · have gi : (0 : Int) ≤ (k : Int) ∧ (k : Int) < (n : Int) := by omega
      have dk : decide ((k : Int) < (n : Int)) = true := decide_eq_true (by omega)
      have hml : (mapTo R k).length = n := by rw [mapTo_len, HRL.out]
      obtain ⟨g, rfl, hg1, hg2⟩ := HO.out.at hml (by omega)
      obtain ⟨g1, o1, e1, _, hx⟩ := HO.out.row.one hml k hlt
      injection e1 with e1
      injection e1 with e11 e12 _
      subst e11 e12
      rw [mapTo_get R k (by rw [HRL.out]; exact hlt)] at hx
      have hst := mapTo_set R k (by rw [HRL.out]; exact hlt)
      obtain ⟨x, hx'⟩ : ∃ x, R.getD k ed0 = x := ⟨_, rfl⟩
      rw [hx'] at hx hst
      have HXR := Lib.hid hx
      have HST := Lib.hid hst
      clear hx hst hx' 
      obtain ⟨B, hB⟩ : ∃ Z, wr.heap.size = Z := ⟨_, rfl⟩
      obtain ⟨wz, hwz⟩ : ∃ wz, wr.alloc (.cells ed0.vals.toArray 28) = wz := ⟨_, rfl⟩
      have hx0 : ∀ ev op, op.op = .alloc 28 → (execOp ev op).run Try.prog wr = .ok (.value (.pointer (some ⟨B, 0, none⟩))) wz := fun ev op ho => by rw [← hwz, ← hB]; exact exec_zero_ed ev op ho _
      have hb0 := box_alloc wr 28 ed0.vals
      rw [hwz] at hb0
      have hh0 := hb0.heap
      rw [hB] at hh0
      have HXX0 := Lib.hid hx0
      have HB0 := Lib.hid hb0
      have HH0 := Lib.hid hh0
      have HE0 := Lib.hid hB
      clear hb0 hB hwz hx0 hh0
      go_wp2_with (with_reducible (show wpList _ _ _ (Oper.mk (some 16) (.load 28 (.tmp 15)) _ _ _ _ :: _) _ _); refine still ?_)
      refine wpList_load_mid rfl 28 (.tmp 15) rfl g (k * 16) rfl x.vals _ (by have := HXR.out; rwa [Nat.zero_add] at this) Try.underlying28 rfl ed_info ?_
      go_wp2_with (with_reducible (show wpList _ _ _ (Oper.mk (some 5) (.alloc 28) _ _ _ _ :: _) _ _); refine still ?_)
      refine list_exec rfl _ _ (HXX0.out _ _ rfl) ?_
      go_wp2_with (with_reducible (show wpList _ _ _ (Oper.mk none (.store 28 (.tmp 5) (.tmp 16)) _ _ _ _ :: _) _ _); refine still ?_)
      refine list_put wz B 28 ed0.vals x.vals HH0.out rfl x.vals_one ed_info rfl (.tmp 5) (.tmp 16) rfl rfl rfl (fun w3 h3 t3 => ?_)
      have H3 := Lib.hid h3
      have T3 := Lib.hid (HB0.out.turn.trans t3 (fun q hq e => by have := HE0.out; omega))
      clear h3 t3
      go_wp2_with (with_reducible (show wpList _ _ _ (Oper.mk (some 19) (.load 28 (.tmp 5)) _ _ _ _ :: _) _ _); refine still ?_)
      refine wpList_load_mid rfl 28 (.tmp 5) rfl B 0 rfl x.vals _ (range_of H3.out) Try.underlying28 rfl ed_info ?_
      go_wp2_with fail
      refine (turned_any x w3).mono ?_
      rintro r w4 ⟨rfl, t4⟩
      have T4 := Lib.hid (T3.out.trans t4 (fun _ _ => id))
      clear t4
      have o4 := HO.out.turn T4.out (fun _ _ => id)
      have th := (own_set_ed (show w4.ownsRow w.heap.size 28 16 (.slice (some ⟨g, 0, none⟩) n c) n (edsV (mapTo R k)) from by have := o4; unfold OwE at this; rwa [hml] at this) hml k hlt (turnE x)).2
      have s4 := o4.set hml k hlt (turnE x)
      rw [HST.out] at s4
      have t5 := turn_setCells g (turnE x).vals (k * 16) w4
      obtain ⟨w5, hw5⟩ : ∃ w5, w4.setCells g (k * 16) (turnE x).vals = w5 := ⟨_, rfl⟩
      rw [hw5] at s4 t5
      have HTH := Lib.hid th
      have HS4 := Lib.hid s4
      have HT5 := Lib.hid ((HT.out.trans T4.out (fun _ _ => id)).trans t5 (fun q hq e => by omega))
      have HW5 := Lib.hid hw5
      clear o4 th s4 t5 hw5
      go_wp2_with (with_reducible (show wpList _ _ _ (Oper.mk none (.store 28 (.tmp 21) (.tmp 20)) _ _ _ _ :: _) _ _); refine still ?_)
      refine wpList_store_mid rfl 28 (.tmp 21) (.tmp 20) rfl g (k * 16) (turnE x).vals.toArray rfl rfl HTH.out ed_info (all_oneCell_toArray (turnE x).vals_one) ?_
      rw [show w4.setCells g (k * 16) (turnE x).vals.toArray.toList = w5 from HW5.out]
      go_wp2_with fail
      go_roundw
      case rel => exact ⟨k + 1, by omega, by go_num, HS4.out, HT5.out⟩
      case measure => simp [intOf]; omega
    · have hke : k = n := by omega
      subst hke
      go_wp2_with fail
      go_ret
      refine ⟨_, rfl, ?_, HT.out⟩
      have e := mapTo_all R
      rw [HRL.out] at e
      have e2 : invE l = mapTo R k := by rw [e, ← HR.out]; rfl
      rw [e2]
      exact HO.out
set_option maxHeartbeats 4000000 in
theorem awake_any (w : World) : Calls Try.prog 8 #[] w fun e w' => e = .returned (.bool true) ∧ Turn (fun _ => False) w w' := by
  obtain ⟨y, hy⟩ : ∃ y : Ed, y = ⟨1, El.at 1, 0, 0, e0, 0, e0⟩ := ⟨_, rfl⟩
  have hbx := box_alloc w 28 y.vals
  have hrow := one_edV (w := w) y
  obtain ⟨X, hX⟩ : ∃ X, w.heap.size = X := ⟨_, rfl⟩
  obtain ⟨w1, hw1⟩ : ∃ w1, w.alloc (.cells y.vals.toArray 28) = w1 := ⟨_, rfl⟩
  rw [hw1] at hbx hrow
  rw [hX] at hrow
  have hbl : ∀ ev op, op.op = .buildSlice 40 1 #[(0, .tmp 3)] → ev (.tmp 3) = .agg y.vals.toArray → (execOp ev op).run Try.prog w = .ok (.value (.slice (some ⟨X, 0, none⟩) 1 1)) w1 := fun ev op ho h => by rw [← hw1, ← hX]; exact exec_build_one_ed ev op (.tmp 3) 40 Try.underlying40 ho y h w
  have HBL := Lib.hid hbl
  have HROW := Lib.hid hrow
  have HT := Lib.hid hbx.turn
  have HY := Lib.hid hy
  clear hbl hrow hbx hX hw1 hy
  go_enter Try.func8, Try.ntmps8
  go_wp2_with (with_reducible (show wpList _ _ _ (Oper.mk (some 2) (.build 24 _) _ _ _ _ :: _) _ _); refine still ?_)
  refine list_exec rfl _ _ (exec_build_at _ _ _ 1 rfl rfl _) ?_
  go_wp2_with (with_reducible (show wpList _ _ _ (Oper.mk (some 3) (.build 28 _) _ _ _ _ :: _) _ _); refine still ?_)
  refine list_exec rfl _ _ (exec_edB _ _ _ _ 1 (El.at 1) rfl rfl rfl _) ?_
  rw [← HY.out]
  go_wp2_with (with_reducible (show wpList _ _ _ (Oper.mk (some 4) (.buildSlice 40 _ _) _ _ _ _ :: _) _ _); refine still ?_)
  refine list_exec rfl _ _ (HBL.out _ _ rfl rfl) ?_
  go_wp2_with fail
  refine (invert_any w1 _ [y] HROW.out (by simp)).mono ?_
  rintro r w2 ⟨v2, rfl, o2, t2⟩
  have hl : (invE [y]).length = 1 := by simp [invE]
  obtain ⟨a, c, rfl⟩ : ∃ a c, v2 = .slice a 1 c := by have := own_slice_ed (show w2.ownsRow w1.heap.size 28 16 v2 1 (edsV (invE [y])) from by have := o2; unfold OwE at this; rwa [hl] at this); exact this
  obtain ⟨g, o, rfl, hc, hx⟩ := o2.row.one hl 0 (by decide)
  have hg : (invE [y]).getD 0 ed0 = turnE y := rfl
  rw [hg] at hx
  obtain ⟨c0, _, _, _, _, _⟩ := edC hx
  have hop : (turnE y).op = 2 := by rw [HY.out]; rfl
  rw [hop] at c0
  simp only [Nat.zero_mul, Nat.add_zero] at c0
  have T2 := Lib.hid (HT.out.trans t2 (fun _ _ => id))
  clear o2 t2 hx hg hop hl hc
  go_wp2_with fail
  refine (of_any 5 w2).mono ?_
  rintro r w3 ⟨rfl, rfl⟩
  rw [show ofE 5 = 5 from rfl]
  go_wp2_with fail
  go_ret
  exact ⟨rfl, T2.out⟩

end Go.Proofs.Ytbokdgcdkmnldaa
