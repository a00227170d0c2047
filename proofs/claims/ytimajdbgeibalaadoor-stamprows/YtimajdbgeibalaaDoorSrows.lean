/- Own: the walk of StampRows. -/
import Derived.Test.YtimajdbgeibalaaDoorOrder2
import Derived.Test.YtimajdbgeibalaaDoorSless
namespace Go.Proofs.YtimajdbgeibalaaDoor
open Go.RowKit
set_option linter.unusedVariables false
set_option linter.unusedSimpArgs false

theorem three24 (w W : World) (xs ys zs : List Int) (h : ((w.alloc (.cells (xs.map (Value.int .u8)).toArray 24)).alloc (.cells (ys.map (Value.int .u8)).toArray 24)).alloc (.cells (zs.map (Value.int .u8)).toArray 24) = W) :
    (BytesAt W w.heap.size 24 xs ∧ BytesAt W (w.heap.size + 1) 24 ys ∧ BytesAt W (w.heap.size + 1 + 1) 24 zs) ∧ Turn (fun _ => False) w W := by
  obtain ⟨a1, a2, a3⟩ := two24 w _ xs ys rfl
  have ta : Turn (fun _ => False) ((w.alloc (.cells (xs.map (Value.int .u8)).toArray 24)).alloc (.cells (ys.map (Value.int .u8)).toArray 24)) W := by subst h; exact (Turn.refl _ _).alloc _
  refine ⟨⟨a1.turn ta id, a2.turn ta id, ?_⟩, a3.trans ta (fun _ _ => id)⟩
  subst h
  have := heap_alloc_new ((w.alloc (.cells (xs.map (Value.int .u8)).toArray 24)).alloc (.cells (ys.map (Value.int .u8)).toArray 24)) (.cells (zs.map (Value.int .u8)).toArray 24)
  unfold BytesAt
  simpa using this

set_option maxHeartbeats 4000000 in
set_option maxRecDepth 100000 in
theorem srows_no (xs ys zs : List Int) (w : World) (hlx : xs.length = 32) (hly : ys.length = 32) (hlz : zs.length = 32) (hbx : ∀ x ∈ xs, Byt x) (hby : ∀ x ∈ ys, Byt x) (hbz : ∀ x ∈ zs, Byt x) (ht : Tables w) :
    Calls Tryd.prog 8 #[.agg (xs.map (Value.int .u8)).toArray, .agg (ys.map (Value.int .u8)).toArray, .agg (zs.map (Value.int .u8)).toArray, .bool false] w fun e w' => e = .returned (.bool true) ∧ Turn (fun _ => False) w w' := by
  have HT := Lib.hid ht
  clear ht
  have hix : (Tryd.prog.info? 24).map (·.size) = some (xs.map (Value.int .u8)).length := by rw [size24]; simp [hlx]
  have hiy : (Tryd.prog.info? 24).map (·.size) = some (ys.map (Value.int .u8)).length := by rw [size24]; simp [hly]
  have hiz : (Tryd.prog.info? 24).map (·.size) = some (zs.map (Value.int .u8)).length := by rw [size24]; simp [hlz]
  have htxs := texts_less_str xs ys (hlx.trans hly.symm) hbx hby
  obtain ⟨sx, hsx⟩ : ∃ sx, strOfNums (hexB xs) = sx := ⟨_, rfl⟩
  obtain ⟨sy, hsy⟩ : ∃ sy, strOfNums (hexB ys) = sy := ⟨_, rfl⟩
  rw [hsx, hsy] at htxs
  have HSX := Lib.hid hsx
  have HSY := Lib.hid hsy
  have HTX := Lib.hid htxs
  clear hsx hsy htxs
  go_enter Tryd.func8, Tryd.ntmps8
  go_wp2_with (first | (generalize hW : World.alloc (World.alloc (World.alloc w _) _) _ = w0; obtain ⟨hS0, T0⟩ := three24 w w0 xs ys zs hW; clear hW; refine wpList_load_want (op := ⟨some 20, .load 24 (.tmp 4), _, _, _, _⟩) rfl 24 (.tmp 4) rfl w.heap.size 0 rfl (xs.map (Value.int .u8)) _ hS0.1.range Tryd.underlying24 rfl hix ?_) | (refine wpList_load_want (op := ⟨some 21, .load 24 (.tmp 5), _, _, _, _⟩) rfl 24 (.tmp 5) rfl (w.heap.size + 1) 0 rfl (ys.map (Value.int .u8)) _ hS0.2.1.range Tryd.underlying24 rfl hiy ?_))
  rcases Bool.eq_false_or_eq_true (lessB xs ys) with hab | hab
  · refine (less_any xs ys _ hlx hly).mono ?_
    rintro e w1 ⟨rfl, t1⟩
    have T1 := T0.trans t1 (fun _ _ => id)
    have hS1 : BytesAt w1 w.heap.size 24 xs ∧ BytesAt w1 (w.heap.size + 1) 24 ys ∧ BytesAt w1 (w.heap.size + 1 + 1) 24 zs := ⟨hS0.1.turn t1 id, hS0.2.1.turn t1 id, hS0.2.2.turn t1 id⟩
    rw [hab]
    go_wp2_with (first | (refine wpList_load_want (op := ⟨some 24, .load 24 (.tmp 5), _, _, _, _⟩) rfl 24 (.tmp 5) rfl (w.heap.size + 1) 0 rfl (ys.map (Value.int .u8)) _ hS1.2.1.range Tryd.underlying24 rfl hiy ?_) | (refine wpList_load_want (op := ⟨some 25, .load 24 (.tmp 6), _, _, _, _⟩) rfl 24 (.tmp 6) rfl (w.heap.size + 1 + 1) 0 rfl (zs.map (Value.int .u8)) _ hS1.2.2.range Tryd.underlying24 rfl hiz ?_))
    rcases Bool.eq_false_or_eq_true (lessB ys zs) with hbc | hbc
    · refine (less_any ys zs _ hly hlz).mono ?_
      rintro e w2 ⟨rfl, t2⟩
      have T2 := T1.trans t2 (fun _ _ => id)
      have hS2 : BytesAt w2 w.heap.size 24 xs ∧ BytesAt w2 (w.heap.size + 1) 24 ys ∧ BytesAt w2 (w.heap.size + 1 + 1) 24 zs := ⟨hS1.1.turn t2 id, hS1.2.1.turn t2 id, hS1.2.2.turn t2 id⟩
      rw [hbc]
      have hac := lessB_trans xs ys zs (hlx.trans hly.symm) (hly.trans hlz.symm) hbx hby hbz hab hbc
      go_wp2_with (first | (refine wpList_load_want (op := ⟨some 29, .load 24 (.tmp 4), _, _, _, _⟩) rfl 24 (.tmp 4) rfl w.heap.size 0 rfl (xs.map (Value.int .u8)) _ hS2.1.range Tryd.underlying24 rfl hix ?_) | (refine wpList_load_want (op := ⟨some 30, .load 24 (.tmp 6), _, _, _, _⟩) rfl 24 (.tmp 6) rfl (w.heap.size + 1 + 1) 0 rfl (zs.map (Value.int .u8)) _ hS2.2.2.range Tryd.underlying24 rfl hiz ?_))
      refine (less_any xs zs _ hlx hlz).mono ?_
      rintro e w3 ⟨rfl, t3⟩
      have T3 := T2.trans t3 (fun _ _ => id)
      have hS3 : BytesAt w3 w.heap.size 24 xs ∧ BytesAt w3 (w.heap.size + 1) 24 ys ∧ BytesAt w3 (w.heap.size + 1 + 1) 24 zs := ⟨hS2.1.turn t3 id, hS2.2.1.turn t3 id, hS2.2.2.turn t3 id⟩
      rw [hac]
      go_wp2_with fail
      have t4 : Turn (fun _ => False) w3 w3.drew := (Turn.refl _ w3).drew
      generalize hwd : w3.drew = w4 at t4
      have T4 := T3.trans t4 (fun _ _ => id)
      have hS4 : BytesAt w4 w.heap.size 24 xs ∧ BytesAt w4 (w.heap.size + 1) 24 ys ∧ BytesAt w4 (w.heap.size + 1 + 1) 24 zs := ⟨hS3.1.turn t4 id, hS3.2.1.turn t4 id, hS3.2.2.turn t4 id⟩
      refine wp_region_held_drew (S := (fun w' => BytesAt w' w.heap.size 24 xs ∧ BytesAt w' (w.heap.size + 1) 24 ys ∧ BytesAt w' (w.heap.size + 1 + 1) 24 zs)) (by kernel_rfl) (by rw [hwd]; exact hS4) (fun hHeld => ?_)
      rw [hwd] at hHeld ⊢
      clear hwd
      refine wpAnyH_ready (rs := [0]) (by kernel_rfl) (by simp) ?_
      refine AllReadyH.cons rfl (fun K hK => ?_) AllReadyH.nil
      rw [if_pos (by rfl)]
      go_simp
      refine (awake_any _ (HT.out.turn T4)).mono ?_
      rintro r w5 ⟨rfl, t5⟩
      have T5 := T4.trans t5 (fun _ _ => id)
      have hS5 : BytesAt w5 w.heap.size 24 xs ∧ BytesAt w5 (w.heap.size + 1) 24 ys ∧ BytesAt w5 (w.heap.size + 1 + 1) 24 zs := ⟨hS4.1.turn t5 id, hS4.2.1.turn t5 id, hS4.2.2.turn t5 id⟩
      refine hK.out _ _ hS5 (fun _ => ?_)
      clear hK K
      try simp only [Act.put, List.setIfInBounds_toArray, List.set_cons_zero, List.set_cons_succ, List.getElem_toArray, List.getElem_cons_zero, List.getElem_cons_succ]
      refine wpAnyH_take (i := 1) (v := .bool true) rfl (by kernel_rfl) (by kernel_rfl) (by kernel_rfl) (fun _ _ _ h => h) (Or.inl ⟨by rfl, ?ya1⟩) (by assumption) ?ra1
      case ya1 => (intro w hSw; (try dsimp only at hSw); (try simp only [List.getElem_toArray, List.getElem_cons_zero, List.getElem_cons_succ]); go_simp; try with_reducible rfl)
      case ra1 =>
      try simp only [Act.put, List.setIfInBounds_toArray, List.set_cons_zero, List.set_cons_succ, List.getElem_toArray, List.getElem_cons_zero, List.getElem_cons_succ]
      refine wpAnyH_take (i := 2) (v := .agg (xs.map (Value.int .u8)).toArray) rfl (by kernel_rfl) (by kernel_rfl) (by kernel_rfl) (fun _ _ _ h => h) (Or.inl ⟨by rfl, ?ya2⟩) (by assumption) ?ra2
      case ya2 => (intro wq hSw; exact exec_load_mid _ _ 24 _ rfl w.heap.size 0 rfl (xs.map (Value.int .u8)) _ _ hSw.1.range Tryd.underlying24 rfl hix)
      case ra2 =>
      try simp only [Act.put, List.setIfInBounds_toArray, List.set_cons_zero, List.set_cons_succ, List.getElem_toArray, List.getElem_cons_zero, List.getElem_cons_succ]
      refine wpAnyH_take (i := 3) (v := .agg (ys.map (Value.int .u8)).toArray) rfl (by kernel_rfl) (by kernel_rfl) (by kernel_rfl) (fun _ _ _ h => h) (Or.inl ⟨by rfl, ?ya3⟩) (by assumption) ?ra3
      case ya3 => (intro wq hSw; exact exec_load_mid _ _ 24 _ rfl (w.heap.size + 1) 0 rfl (ys.map (Value.int .u8)) _ _ hSw.2.1.range Tryd.underlying24 rfl hiy)
      case ra3 =>
      try simp only [Act.put, List.setIfInBounds_toArray, List.set_cons_zero, List.set_cons_succ, List.getElem_toArray, List.getElem_cons_zero, List.getElem_cons_succ]
      refine wpAnyH_ready (rs := [4]) (by kernel_rfl) (by simp) ?_
      refine AllReadyH.cons rfl (fun K hK => ?_) AllReadyH.nil
      rw [if_pos (by rfl)]
      go_simp
      refine (less_any xs ys _ hlx hly).mono ?_
      rintro r w6 ⟨rfl, t6⟩
      have T6 := T5.trans t6 (fun _ _ => id)
      have hS6 : BytesAt w6 w.heap.size 24 xs ∧ BytesAt w6 (w.heap.size + 1) 24 ys ∧ BytesAt w6 (w.heap.size + 1 + 1) 24 zs := ⟨hS5.1.turn t6 id, hS5.2.1.turn t6 id, hS5.2.2.turn t6 id⟩
      rw [hab]
      refine hK.out _ _ hS6 (fun _ => ?_)
      clear hK K
      try simp only [Act.put, List.setIfInBounds_toArray, List.set_cons_zero, List.set_cons_succ, List.getElem_toArray, List.getElem_cons_zero, List.getElem_cons_succ]
      refine wpAnyH_take (i := 5) (v := .bool true) rfl (by kernel_rfl) (by kernel_rfl) (by kernel_rfl) (fun _ _ _ h => h) (Or.inl ⟨by rfl, ?ya5⟩) (by assumption) ?ra5
      case ya5 => (intro w hSw; (try dsimp only at hSw); (try simp only [List.getElem_toArray, List.getElem_cons_zero, List.getElem_cons_succ]); go_simp; try with_reducible rfl)
      case ra5 =>
      try simp only [Act.put, List.setIfInBounds_toArray, List.set_cons_zero, List.set_cons_succ, List.getElem_toArray, List.getElem_cons_zero, List.getElem_cons_succ]
      refine wpAnyH_take (i := 6) (v := undef) rfl (by kernel_rfl) (by kernel_rfl) (by kernel_rfl) (fun _ _ _ h => h) (Or.inr ⟨by rfl, rfl⟩) (by assumption) ?ra6
      case ra6 =>
      try simp only [Act.put, List.setIfInBounds_toArray, List.set_cons_zero, List.set_cons_succ, List.getElem_toArray, List.getElem_cons_zero, List.getElem_cons_succ]
      refine wpAnyH_take (i := 7) (v := undef) rfl (by kernel_rfl) (by kernel_rfl) (by kernel_rfl) (fun _ _ _ h => h) (Or.inr ⟨by rfl, rfl⟩) (by assumption) ?ra7
      case ra7 =>
      try simp only [Act.put, List.setIfInBounds_toArray, List.set_cons_zero, List.set_cons_succ, List.getElem_toArray, List.getElem_cons_zero, List.getElem_cons_succ]
      refine wpAnyH_take (i := 8) (v := undef) rfl (by kernel_rfl) (by kernel_rfl) (by kernel_rfl) (fun _ _ _ h => h) (Or.inr ⟨by rfl, rfl⟩) (by assumption) ?ra8
      case ra8 =>
      try simp only [Act.put, List.setIfInBounds_toArray, List.set_cons_zero, List.set_cons_succ, List.getElem_toArray, List.getElem_cons_zero, List.getElem_cons_succ]
      refine wpAnyH_take (i := 9) (v := .bool true) rfl (by kernel_rfl) (by kernel_rfl) (by kernel_rfl) (fun _ _ _ h => h) (Or.inl ⟨by rfl, ?ya9⟩) (by assumption) ?ra9
      case ya9 => (intro w hSw; (try dsimp only at hSw); (try simp only [List.getElem_toArray, List.getElem_cons_zero, List.getElem_cons_succ]); go_simp; try with_reducible rfl)
      case ra9 =>
      try simp only [Act.put, List.setIfInBounds_toArray, List.set_cons_zero, List.set_cons_succ, List.getElem_toArray, List.getElem_cons_zero, List.getElem_cons_succ]
      refine wpAnyH_take (i := 10) (v := .bool true) rfl (by kernel_rfl) (by kernel_rfl) (by kernel_rfl) (fun _ _ _ h => h) (Or.inl ⟨by rfl, ?ya10⟩) (by assumption) ?ra10
      case ya10 => (intro w hSw; (try dsimp only at hSw); (try simp only [List.getElem_toArray, List.getElem_cons_zero, List.getElem_cons_succ]); go_simp; try with_reducible rfl)
      case ra10 =>
      try simp only [Act.put, List.setIfInBounds_toArray, List.set_cons_zero, List.set_cons_succ, List.getElem_toArray, List.getElem_cons_zero, List.getElem_cons_succ]
      refine wpAnyH_take (i := 11) (v := undef) rfl (by kernel_rfl) (by kernel_rfl) (by kernel_rfl) (fun _ _ _ h => h) (Or.inr ⟨by rfl, rfl⟩) (by assumption) ?ra11
      case ra11 =>
      try simp only [Act.put, List.setIfInBounds_toArray, List.set_cons_zero, List.set_cons_succ, List.getElem_toArray, List.getElem_cons_zero, List.getElem_cons_succ]
      refine wpAnyH_take (i := 12) (v := undef) rfl (by kernel_rfl) (by kernel_rfl) (by kernel_rfl) (fun _ _ _ h => h) (Or.inr ⟨by rfl, rfl⟩) (by assumption) ?ra12
      case ra12 =>
      try simp only [Act.put, List.setIfInBounds_toArray, List.set_cons_zero, List.set_cons_succ, List.getElem_toArray, List.getElem_cons_zero, List.getElem_cons_succ]
      refine wpAnyH_take (i := 13) (v := undef) rfl (by kernel_rfl) (by kernel_rfl) (by kernel_rfl) (fun _ _ _ h => h) (Or.inr ⟨by rfl, rfl⟩) (by assumption) ?ra13
      case ra13 =>
      try simp only [Act.put, List.setIfInBounds_toArray, List.set_cons_zero, List.set_cons_succ, List.getElem_toArray, List.getElem_cons_zero, List.getElem_cons_succ]
      refine wpAnyH_take (i := 14) (v := .bool true) rfl (by kernel_rfl) (by kernel_rfl) (by kernel_rfl) (fun _ _ _ h => h) (Or.inl ⟨by rfl, ?ya14⟩) (by assumption) ?ra14
      case ya14 => (intro w hSw; (try dsimp only at hSw); (try simp only [List.getElem_toArray, List.getElem_cons_zero, List.getElem_cons_succ]); go_simp; try with_reducible rfl)
      case ra14 =>
      try simp only [Act.put, List.setIfInBounds_toArray, List.set_cons_zero, List.set_cons_succ, List.getElem_toArray, List.getElem_cons_zero, List.getElem_cons_succ]
      refine wpAnyH_take (i := 15) (v := .bool true) rfl (by kernel_rfl) (by kernel_rfl) (by kernel_rfl) (fun _ _ _ h => h) (Or.inl ⟨by rfl, ?ya15⟩) (by assumption) ?ra15
      case ya15 => (intro w hSw; (try dsimp only at hSw); (try simp only [List.getElem_toArray, List.getElem_cons_zero, List.getElem_cons_succ]); go_simp; try with_reducible rfl)
      case ra15 =>
      try simp only [Act.put, List.setIfInBounds_toArray, List.set_cons_zero, List.set_cons_succ, List.getElem_toArray, List.getElem_cons_zero, List.getElem_cons_succ]
      refine wpAnyH_take (i := 16) (v := .bool true) rfl (by kernel_rfl) (by kernel_rfl) (by kernel_rfl) (fun _ _ _ h => h) (Or.inl ⟨by rfl, ?ya16⟩) (by assumption) ?ra16
      case ya16 => (intro w hSw; (try dsimp only at hSw); (try simp only [List.getElem_toArray, List.getElem_cons_zero, List.getElem_cons_succ]); go_simp; try with_reducible rfl)
      case ra16 =>
      try simp only [Act.put, List.setIfInBounds_toArray, List.set_cons_zero, List.set_cons_succ, List.getElem_toArray, List.getElem_cons_zero, List.getElem_cons_succ]
      refine wpAnyH_take (i := 17) (v := .agg (xs.map (Value.int .u8)).toArray) rfl (by kernel_rfl) (by kernel_rfl) (by kernel_rfl) (fun _ _ _ h => h) (Or.inl ⟨by rfl, ?ya17⟩) (by assumption) ?ra17
      case ya17 => (intro wq hSw; exact exec_load_mid _ _ 24 _ rfl w.heap.size 0 rfl (xs.map (Value.int .u8)) _ _ hSw.1.range Tryd.underlying24 rfl hix)
      case ra17 =>
      try simp only [Act.put, List.setIfInBounds_toArray, List.set_cons_zero, List.set_cons_succ, List.getElem_toArray, List.getElem_cons_zero, List.getElem_cons_succ]
      refine wpAnyH_take (i := 18) (v := .agg (ys.map (Value.int .u8)).toArray) rfl (by kernel_rfl) (by kernel_rfl) (by kernel_rfl) (fun _ _ _ h => h) (Or.inl ⟨by rfl, ?ya18⟩) (by assumption) ?ra18
      case ya18 => (intro wq hSw; exact exec_load_mid _ _ 24 _ rfl (w.heap.size + 1) 0 rfl (ys.map (Value.int .u8)) _ _ hSw.2.1.range Tryd.underlying24 rfl hiy)
      case ra18 =>
      try simp only [Act.put, List.setIfInBounds_toArray, List.set_cons_zero, List.set_cons_succ, List.getElem_toArray, List.getElem_cons_zero, List.getElem_cons_succ]
      refine wpAnyH_take (i := 20) (v := .agg (xs.map (Value.int .u8)).toArray) rfl (by kernel_rfl) (by kernel_rfl) (by kernel_rfl) (fun _ _ _ h => h) (Or.inl ⟨by rfl, ?ya20⟩) (by assumption) ?ra20
      case ya20 => (intro wq hSw; exact exec_load_mid _ _ 24 _ rfl w.heap.size 0 rfl (xs.map (Value.int .u8)) _ _ hSw.1.range Tryd.underlying24 rfl hix)
      case ra20 =>
      try simp only [Act.put, List.setIfInBounds_toArray, List.set_cons_zero, List.set_cons_succ, List.getElem_toArray, List.getElem_cons_zero, List.getElem_cons_succ]
      refine wpAnyH_take (i := 22) (v := .agg (ys.map (Value.int .u8)).toArray) rfl (by kernel_rfl) (by kernel_rfl) (by kernel_rfl) (fun _ _ _ h => h) (Or.inl ⟨by rfl, ?ya22⟩) (by assumption) ?ra22
      case ya22 => (intro wq hSw; exact exec_load_mid _ _ 24 _ rfl (w.heap.size + 1) 0 rfl (ys.map (Value.int .u8)) _ _ hSw.2.1.range Tryd.underlying24 rfl hiy)
      case ra22 =>
      try simp only [Act.put, List.setIfInBounds_toArray, List.set_cons_zero, List.set_cons_succ, List.getElem_toArray, List.getElem_cons_zero, List.getElem_cons_succ]
      refine wpAnyH_ready (rs := [19]) (by kernel_rfl) (by simp) ?_
      refine AllReadyH.cons rfl (fun K hK => ?_) AllReadyH.nil
      rw [if_pos (by rfl)]
      go_simp
      refine (less_any xs ys _ hlx hly).mono ?_
      rintro r w7 ⟨rfl, t7⟩
      have T7 := T6.trans t7 (fun _ _ => id)
      have hS7 : BytesAt w7 w.heap.size 24 xs ∧ BytesAt w7 (w.heap.size + 1) 24 ys ∧ BytesAt w7 (w.heap.size + 1 + 1) 24 zs := ⟨hS6.1.turn t7 id, hS6.2.1.turn t7 id, hS6.2.2.turn t7 id⟩
      rw [hab]
      refine hK.out _ _ hS7 (fun _ => ?_)
      clear hK K
      try simp only [Act.put, List.setIfInBounds_toArray, List.set_cons_zero, List.set_cons_succ, List.getElem_toArray, List.getElem_cons_zero, List.getElem_cons_succ]
      refine wpAnyH_ready (rs := [21]) (by kernel_rfl) (by simp) ?_
      refine AllReadyH.cons rfl (fun K hK => ?_) AllReadyH.nil
      rw [if_pos (by rfl)]
      go_simp
      refine (text_any xs _ hlx hbx).mono ?_
      rintro r w8 ⟨rfl, t8⟩
      have T8 := T7.trans t8 (fun _ _ => id)
      have hS8 : BytesAt w8 w.heap.size 24 xs ∧ BytesAt w8 (w.heap.size + 1) 24 ys ∧ BytesAt w8 (w.heap.size + 1 + 1) 24 zs := ⟨hS7.1.turn t8 id, hS7.2.1.turn t8 id, hS7.2.2.turn t8 id⟩
      rw [HSX.out]
      refine hK.out _ _ hS8 (fun _ => ?_)
      clear hK K
      try simp only [Act.put, List.setIfInBounds_toArray, List.set_cons_zero, List.set_cons_succ, List.getElem_toArray, List.getElem_cons_zero, List.getElem_cons_succ]
      refine wpAnyH_ready (rs := [23]) (by kernel_rfl) (by simp) ?_
      refine AllReadyH.cons rfl (fun K hK => ?_) AllReadyH.nil
      rw [if_pos (by rfl)]
      go_simp
      refine (text_any ys _ hly hby).mono ?_
      rintro r w9 ⟨rfl, t9⟩
      have T9 := T8.trans t9 (fun _ _ => id)
      have hS9 : BytesAt w9 w.heap.size 24 xs ∧ BytesAt w9 (w.heap.size + 1) 24 ys ∧ BytesAt w9 (w.heap.size + 1 + 1) 24 zs := ⟨hS8.1.turn t9 id, hS8.2.1.turn t9 id, hS8.2.2.turn t9 id⟩
      rw [HSY.out]
      refine hK.out _ _ hS9 (fun _ => ?_)
      clear hK K
      try simp only [Act.put, List.setIfInBounds_toArray, List.set_cons_zero, List.set_cons_succ, List.getElem_toArray, List.getElem_cons_zero, List.getElem_cons_succ]
      have htx : Op.bytesLess sx.toList sy.toList = true := HTX.out.trans hab
      refine wpAnyH_take (i := 24) (v := .bool true) rfl (by kernel_rfl) (by kernel_rfl) (by kernel_rfl) (fun _ _ _ h => h) (Or.inl ⟨by rfl, ?ya24⟩) (by assumption) ?ra24
      case ya24 => (intro w hSw; (try dsimp only at hSw); (try simp only [List.getElem_toArray, List.getElem_cons_zero, List.getElem_cons_succ]); go_simp; try with_reducible rfl)
      case ra24 =>
      try simp only [Act.put, List.setIfInBounds_toArray, List.set_cons_zero, List.set_cons_succ, List.getElem_toArray, List.getElem_cons_zero, List.getElem_cons_succ]
      refine wpAnyH_take (i := 25) (v := .bool true) rfl (by kernel_rfl) (by kernel_rfl) (by kernel_rfl) (fun _ _ _ h => h) (Or.inl ⟨by rfl, ?ya25⟩) (by assumption) ?ra25
      case ya25 => (intro w hSw; (try dsimp only at hSw); (try simp only [List.getElem_toArray, List.getElem_cons_zero, List.getElem_cons_succ]); go_simp; try with_reducible rfl)
      case ra25 =>
      try simp only [Act.put, List.setIfInBounds_toArray, List.set_cons_zero, List.set_cons_succ, List.getElem_toArray, List.getElem_cons_zero, List.getElem_cons_succ]
      refine wpAnyH_take (i := 26) (v := .bool true) rfl (by kernel_rfl) (by kernel_rfl) (by kernel_rfl) (fun _ _ _ h => h) (Or.inl ⟨by rfl, ?ya26⟩) (by assumption) ?ra26
      case ya26 => (intro w hSw; (try dsimp only at hSw); (try simp only [List.getElem_toArray, List.getElem_cons_zero, List.getElem_cons_succ]); go_simp; try with_reducible rfl)
      case ra26 =>
      try simp only [Act.put, List.setIfInBounds_toArray, List.set_cons_zero, List.set_cons_succ, List.getElem_toArray, List.getElem_cons_zero, List.getElem_cons_succ]
      refine wpAnyH_take (i := 27) (v := .bool true) rfl (by kernel_rfl) (by kernel_rfl) (by kernel_rfl) (fun _ _ _ h => h) (Or.inl ⟨by rfl, ?ya27⟩) (by assumption) ?ra27
      case ya27 => (intro w hSw; (try dsimp only at hSw); (try simp only [List.getElem_toArray, List.getElem_cons_zero, List.getElem_cons_succ]); go_simp; try with_reducible rfl)
      case ra27 =>
      try simp only [Act.put, List.setIfInBounds_toArray, List.set_cons_zero, List.set_cons_succ, List.getElem_toArray, List.getElem_cons_zero, List.getElem_cons_succ]
      refine wpAnyH_done (by kernel_rfl) ?_ _
      go_wp2
      go_ret
      exact ⟨rfl, T9⟩
    · refine (less_any ys zs _ hly hlz).mono ?_
      rintro e w2 ⟨rfl, t2⟩
      have T2 := T1.trans t2 (fun _ _ => id)
      have hS2 : BytesAt w2 w.heap.size 24 xs ∧ BytesAt w2 (w.heap.size + 1) 24 ys ∧ BytesAt w2 (w.heap.size + 1 + 1) 24 zs := ⟨hS1.1.turn t2 id, hS1.2.1.turn t2 id, hS1.2.2.turn t2 id⟩
      rw [hbc]
      go_wp2_with fail
      have t3 : Turn (fun _ => False) w2 w2.drew := (Turn.refl _ w2).drew
      generalize hwd : w2.drew = w3 at t3
      have T3 := T2.trans t3 (fun _ _ => id)
      have hS3 : BytesAt w3 w.heap.size 24 xs ∧ BytesAt w3 (w.heap.size + 1) 24 ys ∧ BytesAt w3 (w.heap.size + 1 + 1) 24 zs := ⟨hS2.1.turn t3 id, hS2.2.1.turn t3 id, hS2.2.2.turn t3 id⟩
      refine wp_region_held_drew (S := (fun w' => BytesAt w' w.heap.size 24 xs ∧ BytesAt w' (w.heap.size + 1) 24 ys ∧ BytesAt w' (w.heap.size + 1 + 1) 24 zs)) (by kernel_rfl) (by rw [hwd]; exact hS3) (fun hHeld => ?_)
      rw [hwd] at hHeld ⊢
      clear hwd
      refine wpAnyH_ready (rs := [0]) (by kernel_rfl) (by simp) ?_
      refine AllReadyH.cons rfl (fun K hK => ?_) AllReadyH.nil
      rw [if_pos (by rfl)]
      go_simp
      refine (awake_any _ (HT.out.turn T3)).mono ?_
      rintro r w4 ⟨rfl, t4⟩
      have T4 := T3.trans t4 (fun _ _ => id)
      have hS4 : BytesAt w4 w.heap.size 24 xs ∧ BytesAt w4 (w.heap.size + 1) 24 ys ∧ BytesAt w4 (w.heap.size + 1 + 1) 24 zs := ⟨hS3.1.turn t4 id, hS3.2.1.turn t4 id, hS3.2.2.turn t4 id⟩
      refine hK.out _ _ hS4 (fun _ => ?_)
      clear hK K
      try simp only [Act.put, List.setIfInBounds_toArray, List.set_cons_zero, List.set_cons_succ, List.getElem_toArray, List.getElem_cons_zero, List.getElem_cons_succ]
      refine wpAnyH_take (i := 1) (v := .bool true) rfl (by kernel_rfl) (by kernel_rfl) (by kernel_rfl) (fun _ _ _ h => h) (Or.inl ⟨by rfl, ?yb1⟩) (by assumption) ?rb1
      case yb1 => (intro w hSw; (try dsimp only at hSw); (try simp only [List.getElem_toArray, List.getElem_cons_zero, List.getElem_cons_succ]); go_simp; try with_reducible rfl)
      case rb1 =>
      try simp only [Act.put, List.setIfInBounds_toArray, List.set_cons_zero, List.set_cons_succ, List.getElem_toArray, List.getElem_cons_zero, List.getElem_cons_succ]
      refine wpAnyH_take (i := 2) (v := .agg (xs.map (Value.int .u8)).toArray) rfl (by kernel_rfl) (by kernel_rfl) (by kernel_rfl) (fun _ _ _ h => h) (Or.inl ⟨by rfl, ?yb2⟩) (by assumption) ?rb2
      case yb2 => (intro wq hSw; exact exec_load_mid _ _ 24 _ rfl w.heap.size 0 rfl (xs.map (Value.int .u8)) _ _ hSw.1.range Tryd.underlying24 rfl hix)
      case rb2 =>
      try simp only [Act.put, List.setIfInBounds_toArray, List.set_cons_zero, List.set_cons_succ, List.getElem_toArray, List.getElem_cons_zero, List.getElem_cons_succ]
      refine wpAnyH_take (i := 3) (v := .agg (ys.map (Value.int .u8)).toArray) rfl (by kernel_rfl) (by kernel_rfl) (by kernel_rfl) (fun _ _ _ h => h) (Or.inl ⟨by rfl, ?yb3⟩) (by assumption) ?rb3
      case yb3 => (intro wq hSw; exact exec_load_mid _ _ 24 _ rfl (w.heap.size + 1) 0 rfl (ys.map (Value.int .u8)) _ _ hSw.2.1.range Tryd.underlying24 rfl hiy)
      case rb3 =>
      try simp only [Act.put, List.setIfInBounds_toArray, List.set_cons_zero, List.set_cons_succ, List.getElem_toArray, List.getElem_cons_zero, List.getElem_cons_succ]
      refine wpAnyH_ready (rs := [4]) (by kernel_rfl) (by simp) ?_
      refine AllReadyH.cons rfl (fun K hK => ?_) AllReadyH.nil
      rw [if_pos (by rfl)]
      go_simp
      refine (less_any xs ys _ hlx hly).mono ?_
      rintro r w5 ⟨rfl, t5⟩
      have T5 := T4.trans t5 (fun _ _ => id)
      have hS5 : BytesAt w5 w.heap.size 24 xs ∧ BytesAt w5 (w.heap.size + 1) 24 ys ∧ BytesAt w5 (w.heap.size + 1 + 1) 24 zs := ⟨hS4.1.turn t5 id, hS4.2.1.turn t5 id, hS4.2.2.turn t5 id⟩
      rw [hab]
      refine hK.out _ _ hS5 (fun _ => ?_)
      clear hK K
      try simp only [Act.put, List.setIfInBounds_toArray, List.set_cons_zero, List.set_cons_succ, List.getElem_toArray, List.getElem_cons_zero, List.getElem_cons_succ]
      refine wpAnyH_take (i := 5) (v := .bool true) rfl (by kernel_rfl) (by kernel_rfl) (by kernel_rfl) (fun _ _ _ h => h) (Or.inl ⟨by rfl, ?yb5⟩) (by assumption) ?rb5
      case yb5 => (intro w hSw; (try dsimp only at hSw); (try simp only [List.getElem_toArray, List.getElem_cons_zero, List.getElem_cons_succ]); go_simp; try with_reducible rfl)
      case rb5 =>
      try simp only [Act.put, List.setIfInBounds_toArray, List.set_cons_zero, List.set_cons_succ, List.getElem_toArray, List.getElem_cons_zero, List.getElem_cons_succ]
      refine wpAnyH_take (i := 6) (v := undef) rfl (by kernel_rfl) (by kernel_rfl) (by kernel_rfl) (fun _ _ _ h => h) (Or.inr ⟨by rfl, rfl⟩) (by assumption) ?rb6
      case rb6 =>
      try simp only [Act.put, List.setIfInBounds_toArray, List.set_cons_zero, List.set_cons_succ, List.getElem_toArray, List.getElem_cons_zero, List.getElem_cons_succ]
      refine wpAnyH_take (i := 7) (v := undef) rfl (by kernel_rfl) (by kernel_rfl) (by kernel_rfl) (fun _ _ _ h => h) (Or.inr ⟨by rfl, rfl⟩) (by assumption) ?rb7
      case rb7 =>
      try simp only [Act.put, List.setIfInBounds_toArray, List.set_cons_zero, List.set_cons_succ, List.getElem_toArray, List.getElem_cons_zero, List.getElem_cons_succ]
      refine wpAnyH_take (i := 8) (v := undef) rfl (by kernel_rfl) (by kernel_rfl) (by kernel_rfl) (fun _ _ _ h => h) (Or.inr ⟨by rfl, rfl⟩) (by assumption) ?rb8
      case rb8 =>
      try simp only [Act.put, List.setIfInBounds_toArray, List.set_cons_zero, List.set_cons_succ, List.getElem_toArray, List.getElem_cons_zero, List.getElem_cons_succ]
      refine wpAnyH_take (i := 9) (v := .bool true) rfl (by kernel_rfl) (by kernel_rfl) (by kernel_rfl) (fun _ _ _ h => h) (Or.inl ⟨by rfl, ?yb9⟩) (by assumption) ?rb9
      case yb9 => (intro w hSw; (try dsimp only at hSw); (try simp only [List.getElem_toArray, List.getElem_cons_zero, List.getElem_cons_succ]); go_simp; try with_reducible rfl)
      case rb9 =>
      try simp only [Act.put, List.setIfInBounds_toArray, List.set_cons_zero, List.set_cons_succ, List.getElem_toArray, List.getElem_cons_zero, List.getElem_cons_succ]
      refine wpAnyH_take (i := 10) (v := .bool true) rfl (by kernel_rfl) (by kernel_rfl) (by kernel_rfl) (fun _ _ _ h => h) (Or.inl ⟨by rfl, ?yb10⟩) (by assumption) ?rb10
      case yb10 => (intro w hSw; (try dsimp only at hSw); (try simp only [List.getElem_toArray, List.getElem_cons_zero, List.getElem_cons_succ]); go_simp; try with_reducible rfl)
      case rb10 =>
      try simp only [Act.put, List.setIfInBounds_toArray, List.set_cons_zero, List.set_cons_succ, List.getElem_toArray, List.getElem_cons_zero, List.getElem_cons_succ]
      refine wpAnyH_take (i := 11) (v := undef) rfl (by kernel_rfl) (by kernel_rfl) (by kernel_rfl) (fun _ _ _ h => h) (Or.inr ⟨by rfl, rfl⟩) (by assumption) ?rb11
      case rb11 =>
      try simp only [Act.put, List.setIfInBounds_toArray, List.set_cons_zero, List.set_cons_succ, List.getElem_toArray, List.getElem_cons_zero, List.getElem_cons_succ]
      refine wpAnyH_take (i := 12) (v := undef) rfl (by kernel_rfl) (by kernel_rfl) (by kernel_rfl) (fun _ _ _ h => h) (Or.inr ⟨by rfl, rfl⟩) (by assumption) ?rb12
      case rb12 =>
      try simp only [Act.put, List.setIfInBounds_toArray, List.set_cons_zero, List.set_cons_succ, List.getElem_toArray, List.getElem_cons_zero, List.getElem_cons_succ]
      refine wpAnyH_take (i := 13) (v := undef) rfl (by kernel_rfl) (by kernel_rfl) (by kernel_rfl) (fun _ _ _ h => h) (Or.inr ⟨by rfl, rfl⟩) (by assumption) ?rb13
      case rb13 =>
      try simp only [Act.put, List.setIfInBounds_toArray, List.set_cons_zero, List.set_cons_succ, List.getElem_toArray, List.getElem_cons_zero, List.getElem_cons_succ]
      refine wpAnyH_take (i := 14) (v := .bool true) rfl (by kernel_rfl) (by kernel_rfl) (by kernel_rfl) (fun _ _ _ h => h) (Or.inl ⟨by rfl, ?yb14⟩) (by assumption) ?rb14
      case yb14 => (intro w hSw; (try dsimp only at hSw); (try simp only [List.getElem_toArray, List.getElem_cons_zero, List.getElem_cons_succ]); go_simp; try with_reducible rfl)
      case rb14 =>
      try simp only [Act.put, List.setIfInBounds_toArray, List.set_cons_zero, List.set_cons_succ, List.getElem_toArray, List.getElem_cons_zero, List.getElem_cons_succ]
      refine wpAnyH_take (i := 15) (v := .bool true) rfl (by kernel_rfl) (by kernel_rfl) (by kernel_rfl) (fun _ _ _ h => h) (Or.inl ⟨by rfl, ?yb15⟩) (by assumption) ?rb15
      case yb15 => (intro w hSw; (try dsimp only at hSw); (try simp only [List.getElem_toArray, List.getElem_cons_zero, List.getElem_cons_succ]); go_simp; try with_reducible rfl)
      case rb15 =>
      try simp only [Act.put, List.setIfInBounds_toArray, List.set_cons_zero, List.set_cons_succ, List.getElem_toArray, List.getElem_cons_zero, List.getElem_cons_succ]
      refine wpAnyH_take (i := 16) (v := .bool true) rfl (by kernel_rfl) (by kernel_rfl) (by kernel_rfl) (fun _ _ _ h => h) (Or.inl ⟨by rfl, ?yb16⟩) (by assumption) ?rb16
      case yb16 => (intro w hSw; (try dsimp only at hSw); (try simp only [List.getElem_toArray, List.getElem_cons_zero, List.getElem_cons_succ]); go_simp; try with_reducible rfl)
      case rb16 =>
      try simp only [Act.put, List.setIfInBounds_toArray, List.set_cons_zero, List.set_cons_succ, List.getElem_toArray, List.getElem_cons_zero, List.getElem_cons_succ]
      refine wpAnyH_take (i := 17) (v := .agg (xs.map (Value.int .u8)).toArray) rfl (by kernel_rfl) (by kernel_rfl) (by kernel_rfl) (fun _ _ _ h => h) (Or.inl ⟨by rfl, ?yb17⟩) (by assumption) ?rb17
      case yb17 => (intro wq hSw; exact exec_load_mid _ _ 24 _ rfl w.heap.size 0 rfl (xs.map (Value.int .u8)) _ _ hSw.1.range Tryd.underlying24 rfl hix)
      case rb17 =>
      try simp only [Act.put, List.setIfInBounds_toArray, List.set_cons_zero, List.set_cons_succ, List.getElem_toArray, List.getElem_cons_zero, List.getElem_cons_succ]
      refine wpAnyH_take (i := 18) (v := .agg (ys.map (Value.int .u8)).toArray) rfl (by kernel_rfl) (by kernel_rfl) (by kernel_rfl) (fun _ _ _ h => h) (Or.inl ⟨by rfl, ?yb18⟩) (by assumption) ?rb18
      case yb18 => (intro wq hSw; exact exec_load_mid _ _ 24 _ rfl (w.heap.size + 1) 0 rfl (ys.map (Value.int .u8)) _ _ hSw.2.1.range Tryd.underlying24 rfl hiy)
      case rb18 =>
      try simp only [Act.put, List.setIfInBounds_toArray, List.set_cons_zero, List.set_cons_succ, List.getElem_toArray, List.getElem_cons_zero, List.getElem_cons_succ]
      refine wpAnyH_take (i := 20) (v := .agg (xs.map (Value.int .u8)).toArray) rfl (by kernel_rfl) (by kernel_rfl) (by kernel_rfl) (fun _ _ _ h => h) (Or.inl ⟨by rfl, ?yb20⟩) (by assumption) ?rb20
      case yb20 => (intro wq hSw; exact exec_load_mid _ _ 24 _ rfl w.heap.size 0 rfl (xs.map (Value.int .u8)) _ _ hSw.1.range Tryd.underlying24 rfl hix)
      case rb20 =>
      try simp only [Act.put, List.setIfInBounds_toArray, List.set_cons_zero, List.set_cons_succ, List.getElem_toArray, List.getElem_cons_zero, List.getElem_cons_succ]
      refine wpAnyH_take (i := 22) (v := .agg (ys.map (Value.int .u8)).toArray) rfl (by kernel_rfl) (by kernel_rfl) (by kernel_rfl) (fun _ _ _ h => h) (Or.inl ⟨by rfl, ?yb22⟩) (by assumption) ?rb22
      case yb22 => (intro wq hSw; exact exec_load_mid _ _ 24 _ rfl (w.heap.size + 1) 0 rfl (ys.map (Value.int .u8)) _ _ hSw.2.1.range Tryd.underlying24 rfl hiy)
      case rb22 =>
      try simp only [Act.put, List.setIfInBounds_toArray, List.set_cons_zero, List.set_cons_succ, List.getElem_toArray, List.getElem_cons_zero, List.getElem_cons_succ]
      refine wpAnyH_ready (rs := [19]) (by kernel_rfl) (by simp) ?_
      refine AllReadyH.cons rfl (fun K hK => ?_) AllReadyH.nil
      rw [if_pos (by rfl)]
      go_simp
      refine (less_any xs ys _ hlx hly).mono ?_
      rintro r w6 ⟨rfl, t6⟩
      have T6 := T5.trans t6 (fun _ _ => id)
      have hS6 : BytesAt w6 w.heap.size 24 xs ∧ BytesAt w6 (w.heap.size + 1) 24 ys ∧ BytesAt w6 (w.heap.size + 1 + 1) 24 zs := ⟨hS5.1.turn t6 id, hS5.2.1.turn t6 id, hS5.2.2.turn t6 id⟩
      rw [hab]
      refine hK.out _ _ hS6 (fun _ => ?_)
      clear hK K
      try simp only [Act.put, List.setIfInBounds_toArray, List.set_cons_zero, List.set_cons_succ, List.getElem_toArray, List.getElem_cons_zero, List.getElem_cons_succ]
      refine wpAnyH_ready (rs := [21]) (by kernel_rfl) (by simp) ?_
      refine AllReadyH.cons rfl (fun K hK => ?_) AllReadyH.nil
      rw [if_pos (by rfl)]
      go_simp
      refine (text_any xs _ hlx hbx).mono ?_
      rintro r w7 ⟨rfl, t7⟩
      have T7 := T6.trans t7 (fun _ _ => id)
      have hS7 : BytesAt w7 w.heap.size 24 xs ∧ BytesAt w7 (w.heap.size + 1) 24 ys ∧ BytesAt w7 (w.heap.size + 1 + 1) 24 zs := ⟨hS6.1.turn t7 id, hS6.2.1.turn t7 id, hS6.2.2.turn t7 id⟩
      rw [HSX.out]
      refine hK.out _ _ hS7 (fun _ => ?_)
      clear hK K
      try simp only [Act.put, List.setIfInBounds_toArray, List.set_cons_zero, List.set_cons_succ, List.getElem_toArray, List.getElem_cons_zero, List.getElem_cons_succ]
      refine wpAnyH_ready (rs := [23]) (by kernel_rfl) (by simp) ?_
      refine AllReadyH.cons rfl (fun K hK => ?_) AllReadyH.nil
      rw [if_pos (by rfl)]
      go_simp
      refine (text_any ys _ hly hby).mono ?_
      rintro r w8 ⟨rfl, t8⟩
      have T8 := T7.trans t8 (fun _ _ => id)
      have hS8 : BytesAt w8 w.heap.size 24 xs ∧ BytesAt w8 (w.heap.size + 1) 24 ys ∧ BytesAt w8 (w.heap.size + 1 + 1) 24 zs := ⟨hS7.1.turn t8 id, hS7.2.1.turn t8 id, hS7.2.2.turn t8 id⟩
      rw [HSY.out]
      refine hK.out _ _ hS8 (fun _ => ?_)
      clear hK K
      try simp only [Act.put, List.setIfInBounds_toArray, List.set_cons_zero, List.set_cons_succ, List.getElem_toArray, List.getElem_cons_zero, List.getElem_cons_succ]
      have htx : Op.bytesLess sx.toList sy.toList = true := HTX.out.trans hab
      refine wpAnyH_take (i := 24) (v := .bool true) rfl (by kernel_rfl) (by kernel_rfl) (by kernel_rfl) (fun _ _ _ h => h) (Or.inl ⟨by rfl, ?yb24⟩) (by assumption) ?rb24
      case yb24 => (intro w hSw; (try dsimp only at hSw); (try simp only [List.getElem_toArray, List.getElem_cons_zero, List.getElem_cons_succ]); go_simp; try with_reducible rfl)
      case rb24 =>
      try simp only [Act.put, List.setIfInBounds_toArray, List.set_cons_zero, List.set_cons_succ, List.getElem_toArray, List.getElem_cons_zero, List.getElem_cons_succ]
      refine wpAnyH_take (i := 25) (v := .bool true) rfl (by kernel_rfl) (by kernel_rfl) (by kernel_rfl) (fun _ _ _ h => h) (Or.inl ⟨by rfl, ?yb25⟩) (by assumption) ?rb25
      case yb25 => (intro w hSw; (try dsimp only at hSw); (try simp only [List.getElem_toArray, List.getElem_cons_zero, List.getElem_cons_succ]); go_simp; try with_reducible rfl)
      case rb25 =>
      try simp only [Act.put, List.setIfInBounds_toArray, List.set_cons_zero, List.set_cons_succ, List.getElem_toArray, List.getElem_cons_zero, List.getElem_cons_succ]
      refine wpAnyH_take (i := 26) (v := .bool true) rfl (by kernel_rfl) (by kernel_rfl) (by kernel_rfl) (fun _ _ _ h => h) (Or.inl ⟨by rfl, ?yb26⟩) (by assumption) ?rb26
      case yb26 => (intro w hSw; (try dsimp only at hSw); (try simp only [List.getElem_toArray, List.getElem_cons_zero, List.getElem_cons_succ]); go_simp; try with_reducible rfl)
      case rb26 =>
      try simp only [Act.put, List.setIfInBounds_toArray, List.set_cons_zero, List.set_cons_succ, List.getElem_toArray, List.getElem_cons_zero, List.getElem_cons_succ]
      refine wpAnyH_take (i := 27) (v := .bool true) rfl (by kernel_rfl) (by kernel_rfl) (by kernel_rfl) (fun _ _ _ h => h) (Or.inl ⟨by rfl, ?yb27⟩) (by assumption) ?rb27
      case yb27 => (intro w hSw; (try dsimp only at hSw); (try simp only [List.getElem_toArray, List.getElem_cons_zero, List.getElem_cons_succ]); go_simp; try with_reducible rfl)
      case rb27 =>
      try simp only [Act.put, List.setIfInBounds_toArray, List.set_cons_zero, List.set_cons_succ, List.getElem_toArray, List.getElem_cons_zero, List.getElem_cons_succ]
      refine wpAnyH_done (by kernel_rfl) ?_ _
      go_wp2
      go_ret
      exact ⟨rfl, T8⟩
  · refine (less_any xs ys _ hlx hly).mono ?_
    rintro e w1 ⟨rfl, t1⟩
    have T1 := T0.trans t1 (fun _ _ => id)
    have hS1 : BytesAt w1 w.heap.size 24 xs ∧ BytesAt w1 (w.heap.size + 1) 24 ys ∧ BytesAt w1 (w.heap.size + 1 + 1) 24 zs := ⟨hS0.1.turn t1 id, hS0.2.1.turn t1 id, hS0.2.2.turn t1 id⟩
    rw [hab]
    go_wp2_with fail
    have t2 : Turn (fun _ => False) w1 w1.drew := (Turn.refl _ w1).drew
    generalize hwd : w1.drew = w2 at t2
    have T2 := T1.trans t2 (fun _ _ => id)
    have hS2 : BytesAt w2 w.heap.size 24 xs ∧ BytesAt w2 (w.heap.size + 1) 24 ys ∧ BytesAt w2 (w.heap.size + 1 + 1) 24 zs := ⟨hS1.1.turn t2 id, hS1.2.1.turn t2 id, hS1.2.2.turn t2 id⟩
    refine wp_region_held_drew (S := (fun w' => BytesAt w' w.heap.size 24 xs ∧ BytesAt w' (w.heap.size + 1) 24 ys ∧ BytesAt w' (w.heap.size + 1 + 1) 24 zs)) (by kernel_rfl) (by rw [hwd]; exact hS2) (fun hHeld => ?_)
    rw [hwd] at hHeld ⊢
    clear hwd
    refine wpAnyH_ready (rs := [0]) (by kernel_rfl) (by simp) ?_
    refine AllReadyH.cons rfl (fun K hK => ?_) AllReadyH.nil
    rw [if_pos (by rfl)]
    go_simp
    refine (awake_any _ (HT.out.turn T2)).mono ?_
    rintro r w3 ⟨rfl, t3⟩
    have T3 := T2.trans t3 (fun _ _ => id)
    have hS3 : BytesAt w3 w.heap.size 24 xs ∧ BytesAt w3 (w.heap.size + 1) 24 ys ∧ BytesAt w3 (w.heap.size + 1 + 1) 24 zs := ⟨hS2.1.turn t3 id, hS2.2.1.turn t3 id, hS2.2.2.turn t3 id⟩
    refine hK.out _ _ hS3 (fun _ => ?_)
    clear hK K
    try simp only [Act.put, List.setIfInBounds_toArray, List.set_cons_zero, List.set_cons_succ, List.getElem_toArray, List.getElem_cons_zero, List.getElem_cons_succ]
    refine wpAnyH_take (i := 1) (v := .bool true) rfl (by kernel_rfl) (by kernel_rfl) (by kernel_rfl) (fun _ _ _ h => h) (Or.inl ⟨by rfl, ?yc1⟩) (by assumption) ?rc1
    case yc1 => (intro w hSw; (try dsimp only at hSw); (try simp only [List.getElem_toArray, List.getElem_cons_zero, List.getElem_cons_succ]); go_simp; try with_reducible rfl)
    case rc1 =>
    try simp only [Act.put, List.setIfInBounds_toArray, List.set_cons_zero, List.set_cons_succ, List.getElem_toArray, List.getElem_cons_zero, List.getElem_cons_succ]
    refine wpAnyH_take (i := 2) (v := .agg (xs.map (Value.int .u8)).toArray) rfl (by kernel_rfl) (by kernel_rfl) (by kernel_rfl) (fun _ _ _ h => h) (Or.inl ⟨by rfl, ?yc2⟩) (by assumption) ?rc2
    case yc2 => (intro wq hSw; exact exec_load_mid _ _ 24 _ rfl w.heap.size 0 rfl (xs.map (Value.int .u8)) _ _ hSw.1.range Tryd.underlying24 rfl hix)
    case rc2 =>
    try simp only [Act.put, List.setIfInBounds_toArray, List.set_cons_zero, List.set_cons_succ, List.getElem_toArray, List.getElem_cons_zero, List.getElem_cons_succ]
    refine wpAnyH_take (i := 3) (v := .agg (ys.map (Value.int .u8)).toArray) rfl (by kernel_rfl) (by kernel_rfl) (by kernel_rfl) (fun _ _ _ h => h) (Or.inl ⟨by rfl, ?yc3⟩) (by assumption) ?rc3
    case yc3 => (intro wq hSw; exact exec_load_mid _ _ 24 _ rfl (w.heap.size + 1) 0 rfl (ys.map (Value.int .u8)) _ _ hSw.2.1.range Tryd.underlying24 rfl hiy)
    case rc3 =>
    try simp only [Act.put, List.setIfInBounds_toArray, List.set_cons_zero, List.set_cons_succ, List.getElem_toArray, List.getElem_cons_zero, List.getElem_cons_succ]
    refine wpAnyH_ready (rs := [4]) (by kernel_rfl) (by simp) ?_
    refine AllReadyH.cons rfl (fun K hK => ?_) AllReadyH.nil
    rw [if_pos (by rfl)]
    go_simp
    refine (less_any xs ys _ hlx hly).mono ?_
    rintro r w4 ⟨rfl, t4⟩
    have T4 := T3.trans t4 (fun _ _ => id)
    have hS4 : BytesAt w4 w.heap.size 24 xs ∧ BytesAt w4 (w.heap.size + 1) 24 ys ∧ BytesAt w4 (w.heap.size + 1 + 1) 24 zs := ⟨hS3.1.turn t4 id, hS3.2.1.turn t4 id, hS3.2.2.turn t4 id⟩
    rw [hab]
    refine hK.out _ _ hS4 (fun _ => ?_)
    clear hK K
    try simp only [Act.put, List.setIfInBounds_toArray, List.set_cons_zero, List.set_cons_succ, List.getElem_toArray, List.getElem_cons_zero, List.getElem_cons_succ]
    refine wpAnyH_take (i := 5) (v := .bool false) rfl (by kernel_rfl) (by kernel_rfl) (by kernel_rfl) (fun _ _ _ h => h) (Or.inl ⟨by rfl, ?yc5⟩) (by assumption) ?rc5
    case yc5 => (intro w hSw; (try dsimp only at hSw); (try simp only [List.getElem_toArray, List.getElem_cons_zero, List.getElem_cons_succ]); go_simp; try with_reducible rfl)
    case rc5 =>
    try simp only [Act.put, List.setIfInBounds_toArray, List.set_cons_zero, List.set_cons_succ, List.getElem_toArray, List.getElem_cons_zero, List.getElem_cons_succ]
    refine wpAnyH_take (i := 6) (v := .agg (ys.map (Value.int .u8)).toArray) rfl (by kernel_rfl) (by kernel_rfl) (by kernel_rfl) (fun _ _ _ h => h) (Or.inl ⟨by rfl, ?yc6⟩) (by assumption) ?rc6
    case yc6 => (intro wq hSw; exact exec_load_mid _ _ 24 _ rfl (w.heap.size + 1) 0 rfl (ys.map (Value.int .u8)) _ _ hSw.2.1.range Tryd.underlying24 rfl hiy)
    case rc6 =>
    try simp only [Act.put, List.setIfInBounds_toArray, List.set_cons_zero, List.set_cons_succ, List.getElem_toArray, List.getElem_cons_zero, List.getElem_cons_succ]
    refine wpAnyH_take (i := 7) (v := .agg (xs.map (Value.int .u8)).toArray) rfl (by kernel_rfl) (by kernel_rfl) (by kernel_rfl) (fun _ _ _ h => h) (Or.inl ⟨by rfl, ?yc7⟩) (by assumption) ?rc7
    case yc7 => (intro wq hSw; exact exec_load_mid _ _ 24 _ rfl w.heap.size 0 rfl (xs.map (Value.int .u8)) _ _ hSw.1.range Tryd.underlying24 rfl hix)
    case rc7 =>
    try simp only [Act.put, List.setIfInBounds_toArray, List.set_cons_zero, List.set_cons_succ, List.getElem_toArray, List.getElem_cons_zero, List.getElem_cons_succ]
    by_cases hsame : xs = ys
    · have hq : (xs == ys) = true := by simpa using hsame
      have hba : lessB ys xs = false := by rw [hsame]; exact lessB_irrefl ys hby
      clear hsame
      refine wpAnyH_ready (rs := [8]) (by kernel_rfl) (by simp) ?_
      refine AllReadyH.cons rfl (fun K hK => ?_) AllReadyH.nil
      rw [if_pos (by rfl)]
      go_simp
      refine (less_any ys xs _ hly hlx).mono ?_
      rintro r w5 ⟨rfl, t5⟩
      have T5 := T4.trans t5 (fun _ _ => id)
      have hS5 : BytesAt w5 w.heap.size 24 xs ∧ BytesAt w5 (w.heap.size + 1) 24 ys ∧ BytesAt w5 (w.heap.size + 1 + 1) 24 zs := ⟨hS4.1.turn t5 id, hS4.2.1.turn t5 id, hS4.2.2.turn t5 id⟩
      rw [hba]
      refine hK.out _ _ hS5 (fun _ => ?_)
      clear hK K
      try simp only [Act.put, List.setIfInBounds_toArray, List.set_cons_zero, List.set_cons_succ, List.getElem_toArray, List.getElem_cons_zero, List.getElem_cons_succ]
      refine wpAnyH_take (i := 9) (v := .bool false) rfl (by kernel_rfl) (by kernel_rfl) (by kernel_rfl) (fun _ _ _ h => h) (Or.inl ⟨by rfl, ?ycs9⟩) (by assumption) ?rcs9
      case ycs9 => (intro w hSw; (try dsimp only at hSw); (try simp only [List.getElem_toArray, List.getElem_cons_zero, List.getElem_cons_succ]); go_simp; try with_reducible rfl)
      case rcs9 =>
      try simp only [Act.put, List.setIfInBounds_toArray, List.set_cons_zero, List.set_cons_succ, List.getElem_toArray, List.getElem_cons_zero, List.getElem_cons_succ]
      refine wpAnyH_take (i := 10) (v := .bool false) rfl (by kernel_rfl) (by kernel_rfl) (by kernel_rfl) (fun _ _ _ h => h) (Or.inl ⟨by rfl, ?ycs10⟩) (by assumption) ?rcs10
      case ycs10 => (intro w hSw; (try dsimp only at hSw); (try simp only [List.getElem_toArray, List.getElem_cons_zero, List.getElem_cons_succ]); go_simp; try with_reducible rfl)
      case rcs10 =>
      try simp only [Act.put, List.setIfInBounds_toArray, List.set_cons_zero, List.set_cons_succ, List.getElem_toArray, List.getElem_cons_zero, List.getElem_cons_succ]
      refine wpAnyH_take (i := 11) (v := .agg (xs.map (Value.int .u8)).toArray) rfl (by kernel_rfl) (by kernel_rfl) (by kernel_rfl) (fun _ _ _ h => h) (Or.inl ⟨by rfl, ?ycs11⟩) (by assumption) ?rcs11
      case ycs11 => (intro wq hSw; exact exec_load_mid _ _ 24 _ rfl w.heap.size 0 rfl (xs.map (Value.int .u8)) _ _ hSw.1.range Tryd.underlying24 rfl hix)
      case rcs11 =>
      try simp only [Act.put, List.setIfInBounds_toArray, List.set_cons_zero, List.set_cons_succ, List.getElem_toArray, List.getElem_cons_zero, List.getElem_cons_succ]
      refine wpAnyH_take (i := 12) (v := .agg (ys.map (Value.int .u8)).toArray) rfl (by kernel_rfl) (by kernel_rfl) (by kernel_rfl) (fun _ _ _ h => h) (Or.inl ⟨by rfl, ?ycs12⟩) (by assumption) ?rcs12
      case ycs12 => (intro wq hSw; exact exec_load_mid _ _ 24 _ rfl (w.heap.size + 1) 0 rfl (ys.map (Value.int .u8)) _ _ hSw.2.1.range Tryd.underlying24 rfl hiy)
      case rcs12 =>
      try simp only [Act.put, List.setIfInBounds_toArray, List.set_cons_zero, List.set_cons_succ, List.getElem_toArray, List.getElem_cons_zero, List.getElem_cons_succ]
      refine wpAnyH_take (i := 13) (v := .bool true) rfl (by kernel_rfl) (by kernel_rfl) (by kernel_rfl) (fun _ _ _ h => h) (Or.inl ⟨by rfl, ?ycs13⟩) (by assumption) ?rcs13
      case ycs13 => (intro wq hSw; exact exec_bin _ _ .eql 24 (.tmp 45) (.tmp 46) 24 rfl (.agg (xs.map (Value.int .u8)).toArray) (.agg (ys.map (Value.int .u8)).toArray) _ _ rfl rfl (run_eqGuard_agg (P := Tryd.prog) _ .eql 24 _ _ _ _ (by kernel_rfl)) ((run_same 24 32 Tryd.underlying24 xs ys hlx hly _).trans (by rw [hq])))
      case rcs13 =>
      try simp only [Act.put, List.setIfInBounds_toArray, List.set_cons_zero, List.set_cons_succ, List.getElem_toArray, List.getElem_cons_zero, List.getElem_cons_succ]
      refine wpAnyH_take (i := 14) (v := .bool true) rfl (by kernel_rfl) (by kernel_rfl) (by kernel_rfl) (fun _ _ _ h => h) (Or.inl ⟨by rfl, ?ycs14⟩) (by assumption) ?rcs14
      case ycs14 => (intro w hSw; (try dsimp only at hSw); (try simp only [List.getElem_toArray, List.getElem_cons_zero, List.getElem_cons_succ]); go_simp; try with_reducible rfl)
      case rcs14 =>
      try simp only [Act.put, List.setIfInBounds_toArray, List.set_cons_zero, List.set_cons_succ, List.getElem_toArray, List.getElem_cons_zero, List.getElem_cons_succ]
      refine wpAnyH_take (i := 15) (v := .bool true) rfl (by kernel_rfl) (by kernel_rfl) (by kernel_rfl) (fun _ _ _ h => h) (Or.inl ⟨by rfl, ?ycs15⟩) (by assumption) ?rcs15
      case ycs15 => (intro w hSw; (try dsimp only at hSw); (try simp only [List.getElem_toArray, List.getElem_cons_zero, List.getElem_cons_succ]); go_simp; try with_reducible rfl)
      case rcs15 =>
      try simp only [Act.put, List.setIfInBounds_toArray, List.set_cons_zero, List.set_cons_succ, List.getElem_toArray, List.getElem_cons_zero, List.getElem_cons_succ]
      refine wpAnyH_take (i := 16) (v := .bool true) rfl (by kernel_rfl) (by kernel_rfl) (by kernel_rfl) (fun _ _ _ h => h) (Or.inl ⟨by rfl, ?ycs16⟩) (by assumption) ?rcs16
      case ycs16 => (intro w hSw; (try dsimp only at hSw); (try simp only [List.getElem_toArray, List.getElem_cons_zero, List.getElem_cons_succ]); go_simp; try with_reducible rfl)
      case rcs16 =>
      try simp only [Act.put, List.setIfInBounds_toArray, List.set_cons_zero, List.set_cons_succ, List.getElem_toArray, List.getElem_cons_zero, List.getElem_cons_succ]
      refine wpAnyH_take (i := 17) (v := .agg (xs.map (Value.int .u8)).toArray) rfl (by kernel_rfl) (by kernel_rfl) (by kernel_rfl) (fun _ _ _ h => h) (Or.inl ⟨by rfl, ?ycs17⟩) (by assumption) ?rcs17
      case ycs17 => (intro wq hSw; exact exec_load_mid _ _ 24 _ rfl w.heap.size 0 rfl (xs.map (Value.int .u8)) _ _ hSw.1.range Tryd.underlying24 rfl hix)
      case rcs17 =>
      try simp only [Act.put, List.setIfInBounds_toArray, List.set_cons_zero, List.set_cons_succ, List.getElem_toArray, List.getElem_cons_zero, List.getElem_cons_succ]
      refine wpAnyH_take (i := 18) (v := .agg (ys.map (Value.int .u8)).toArray) rfl (by kernel_rfl) (by kernel_rfl) (by kernel_rfl) (fun _ _ _ h => h) (Or.inl ⟨by rfl, ?ycs18⟩) (by assumption) ?rcs18
      case ycs18 => (intro wq hSw; exact exec_load_mid _ _ 24 _ rfl (w.heap.size + 1) 0 rfl (ys.map (Value.int .u8)) _ _ hSw.2.1.range Tryd.underlying24 rfl hiy)
      case rcs18 =>
      try simp only [Act.put, List.setIfInBounds_toArray, List.set_cons_zero, List.set_cons_succ, List.getElem_toArray, List.getElem_cons_zero, List.getElem_cons_succ]
      refine wpAnyH_take (i := 20) (v := .agg (xs.map (Value.int .u8)).toArray) rfl (by kernel_rfl) (by kernel_rfl) (by kernel_rfl) (fun _ _ _ h => h) (Or.inl ⟨by rfl, ?ycs20⟩) (by assumption) ?rcs20
      case ycs20 => (intro wq hSw; exact exec_load_mid _ _ 24 _ rfl w.heap.size 0 rfl (xs.map (Value.int .u8)) _ _ hSw.1.range Tryd.underlying24 rfl hix)
      case rcs20 =>
      try simp only [Act.put, List.setIfInBounds_toArray, List.set_cons_zero, List.set_cons_succ, List.getElem_toArray, List.getElem_cons_zero, List.getElem_cons_succ]
      refine wpAnyH_take (i := 22) (v := .agg (ys.map (Value.int .u8)).toArray) rfl (by kernel_rfl) (by kernel_rfl) (by kernel_rfl) (fun _ _ _ h => h) (Or.inl ⟨by rfl, ?ycs22⟩) (by assumption) ?rcs22
      case ycs22 => (intro wq hSw; exact exec_load_mid _ _ 24 _ rfl (w.heap.size + 1) 0 rfl (ys.map (Value.int .u8)) _ _ hSw.2.1.range Tryd.underlying24 rfl hiy)
      case rcs22 =>
      try simp only [Act.put, List.setIfInBounds_toArray, List.set_cons_zero, List.set_cons_succ, List.getElem_toArray, List.getElem_cons_zero, List.getElem_cons_succ]
      refine wpAnyH_ready (rs := [19]) (by kernel_rfl) (by simp) ?_
      refine AllReadyH.cons rfl (fun K hK => ?_) AllReadyH.nil
      rw [if_pos (by rfl)]
      go_simp
      refine (less_any xs ys _ hlx hly).mono ?_
      rintro r w6 ⟨rfl, t6⟩
      have T6 := T5.trans t6 (fun _ _ => id)
      have hS6 : BytesAt w6 w.heap.size 24 xs ∧ BytesAt w6 (w.heap.size + 1) 24 ys ∧ BytesAt w6 (w.heap.size + 1 + 1) 24 zs := ⟨hS5.1.turn t6 id, hS5.2.1.turn t6 id, hS5.2.2.turn t6 id⟩
      rw [hab]
      refine hK.out _ _ hS6 (fun _ => ?_)
      clear hK K
      try simp only [Act.put, List.setIfInBounds_toArray, List.set_cons_zero, List.set_cons_succ, List.getElem_toArray, List.getElem_cons_zero, List.getElem_cons_succ]
      refine wpAnyH_ready (rs := [21]) (by kernel_rfl) (by simp) ?_
      refine AllReadyH.cons rfl (fun K hK => ?_) AllReadyH.nil
      rw [if_pos (by rfl)]
      go_simp
      refine (text_any xs _ hlx hbx).mono ?_
      rintro r w7 ⟨rfl, t7⟩
      have T7 := T6.trans t7 (fun _ _ => id)
      have hS7 : BytesAt w7 w.heap.size 24 xs ∧ BytesAt w7 (w.heap.size + 1) 24 ys ∧ BytesAt w7 (w.heap.size + 1 + 1) 24 zs := ⟨hS6.1.turn t7 id, hS6.2.1.turn t7 id, hS6.2.2.turn t7 id⟩
      rw [HSX.out]
      refine hK.out _ _ hS7 (fun _ => ?_)
      clear hK K
      try simp only [Act.put, List.setIfInBounds_toArray, List.set_cons_zero, List.set_cons_succ, List.getElem_toArray, List.getElem_cons_zero, List.getElem_cons_succ]
      refine wpAnyH_ready (rs := [23]) (by kernel_rfl) (by simp) ?_
      refine AllReadyH.cons rfl (fun K hK => ?_) AllReadyH.nil
      rw [if_pos (by rfl)]
      go_simp
      refine (text_any ys _ hly hby).mono ?_
      rintro r w8 ⟨rfl, t8⟩
      have T8 := T7.trans t8 (fun _ _ => id)
      have hS8 : BytesAt w8 w.heap.size 24 xs ∧ BytesAt w8 (w.heap.size + 1) 24 ys ∧ BytesAt w8 (w.heap.size + 1 + 1) 24 zs := ⟨hS7.1.turn t8 id, hS7.2.1.turn t8 id, hS7.2.2.turn t8 id⟩
      rw [HSY.out]
      refine hK.out _ _ hS8 (fun _ => ?_)
      clear hK K
      try simp only [Act.put, List.setIfInBounds_toArray, List.set_cons_zero, List.set_cons_succ, List.getElem_toArray, List.getElem_cons_zero, List.getElem_cons_succ]
      have htx : Op.bytesLess sx.toList sy.toList = false := HTX.out.trans hab
      refine wpAnyH_take (i := 24) (v := .bool false) rfl (by kernel_rfl) (by kernel_rfl) (by kernel_rfl) (fun _ _ _ h => h) (Or.inl ⟨by rfl, ?ycs24⟩) (by assumption) ?rcs24
      case ycs24 => (intro w hSw; (try dsimp only at hSw); (try simp only [List.getElem_toArray, List.getElem_cons_zero, List.getElem_cons_succ]); go_simp; try with_reducible rfl)
      case rcs24 =>
      try simp only [Act.put, List.setIfInBounds_toArray, List.set_cons_zero, List.set_cons_succ, List.getElem_toArray, List.getElem_cons_zero, List.getElem_cons_succ]
      refine wpAnyH_take (i := 25) (v := .bool true) rfl (by kernel_rfl) (by kernel_rfl) (by kernel_rfl) (fun _ _ _ h => h) (Or.inl ⟨by rfl, ?ycs25⟩) (by assumption) ?rcs25
      case ycs25 => (intro w hSw; (try dsimp only at hSw); (try simp only [List.getElem_toArray, List.getElem_cons_zero, List.getElem_cons_succ]); go_simp; try with_reducible rfl)
      case rcs25 =>
      try simp only [Act.put, List.setIfInBounds_toArray, List.set_cons_zero, List.set_cons_succ, List.getElem_toArray, List.getElem_cons_zero, List.getElem_cons_succ]
      refine wpAnyH_take (i := 26) (v := .bool true) rfl (by kernel_rfl) (by kernel_rfl) (by kernel_rfl) (fun _ _ _ h => h) (Or.inl ⟨by rfl, ?ycs26⟩) (by assumption) ?rcs26
      case ycs26 => (intro w hSw; (try dsimp only at hSw); (try simp only [List.getElem_toArray, List.getElem_cons_zero, List.getElem_cons_succ]); go_simp; try with_reducible rfl)
      case rcs26 =>
      try simp only [Act.put, List.setIfInBounds_toArray, List.set_cons_zero, List.set_cons_succ, List.getElem_toArray, List.getElem_cons_zero, List.getElem_cons_succ]
      refine wpAnyH_take (i := 27) (v := .bool true) rfl (by kernel_rfl) (by kernel_rfl) (by kernel_rfl) (fun _ _ _ h => h) (Or.inl ⟨by rfl, ?ycs27⟩) (by assumption) ?rcs27
      case ycs27 => (intro w hSw; (try dsimp only at hSw); (try simp only [List.getElem_toArray, List.getElem_cons_zero, List.getElem_cons_succ]); go_simp; try with_reducible rfl)
      case rcs27 =>
      try simp only [Act.put, List.setIfInBounds_toArray, List.set_cons_zero, List.set_cons_succ, List.getElem_toArray, List.getElem_cons_zero, List.getElem_cons_succ]
      refine wpAnyH_done (by kernel_rfl) ?_ _
      go_wp2
      go_ret
      exact ⟨rfl, T8⟩
    · have hba : lessB ys xs = true := by rw [lessB_anti xs ys (hlx.trans hly.symm) hbx hby hsame, hab]; rfl
      clear hsame
      refine wpAnyH_ready (rs := [8]) (by kernel_rfl) (by simp) ?_
      refine AllReadyH.cons rfl (fun K hK => ?_) AllReadyH.nil
      rw [if_pos (by rfl)]
      go_simp
      refine (less_any ys xs _ hly hlx).mono ?_
      rintro r w5 ⟨rfl, t5⟩
      have T5 := T4.trans t5 (fun _ _ => id)
      have hS5 : BytesAt w5 w.heap.size 24 xs ∧ BytesAt w5 (w.heap.size + 1) 24 ys ∧ BytesAt w5 (w.heap.size + 1 + 1) 24 zs := ⟨hS4.1.turn t5 id, hS4.2.1.turn t5 id, hS4.2.2.turn t5 id⟩
      rw [hba]
      refine hK.out _ _ hS5 (fun _ => ?_)
      clear hK K
      try simp only [Act.put, List.setIfInBounds_toArray, List.set_cons_zero, List.set_cons_succ, List.getElem_toArray, List.getElem_cons_zero, List.getElem_cons_succ]
      refine wpAnyH_take (i := 9) (v := .bool true) rfl (by kernel_rfl) (by kernel_rfl) (by kernel_rfl) (fun _ _ _ h => h) (Or.inl ⟨by rfl, ?ycd9⟩) (by assumption) ?rcd9
      case ycd9 => (intro w hSw; (try dsimp only at hSw); (try simp only [List.getElem_toArray, List.getElem_cons_zero, List.getElem_cons_succ]); go_simp; try with_reducible rfl)
      case rcd9 =>
      try simp only [Act.put, List.setIfInBounds_toArray, List.set_cons_zero, List.set_cons_succ, List.getElem_toArray, List.getElem_cons_zero, List.getElem_cons_succ]
      refine wpAnyH_take (i := 10) (v := .bool true) rfl (by kernel_rfl) (by kernel_rfl) (by kernel_rfl) (fun _ _ _ h => h) (Or.inl ⟨by rfl, ?ycd10⟩) (by assumption) ?rcd10
      case ycd10 => (intro w hSw; (try dsimp only at hSw); (try simp only [List.getElem_toArray, List.getElem_cons_zero, List.getElem_cons_succ]); go_simp; try with_reducible rfl)
      case rcd10 =>
      try simp only [Act.put, List.setIfInBounds_toArray, List.set_cons_zero, List.set_cons_succ, List.getElem_toArray, List.getElem_cons_zero, List.getElem_cons_succ]
      refine wpAnyH_take (i := 11) (v := undef) rfl (by kernel_rfl) (by kernel_rfl) (by kernel_rfl) (fun _ _ _ h => h) (Or.inr ⟨by rfl, rfl⟩) (by assumption) ?rcd11
      case rcd11 =>
      try simp only [Act.put, List.setIfInBounds_toArray, List.set_cons_zero, List.set_cons_succ, List.getElem_toArray, List.getElem_cons_zero, List.getElem_cons_succ]
      refine wpAnyH_take (i := 12) (v := undef) rfl (by kernel_rfl) (by kernel_rfl) (by kernel_rfl) (fun _ _ _ h => h) (Or.inr ⟨by rfl, rfl⟩) (by assumption) ?rcd12
      case rcd12 =>
      try simp only [Act.put, List.setIfInBounds_toArray, List.set_cons_zero, List.set_cons_succ, List.getElem_toArray, List.getElem_cons_zero, List.getElem_cons_succ]
      refine wpAnyH_take (i := 13) (v := undef) rfl (by kernel_rfl) (by kernel_rfl) (by kernel_rfl) (fun _ _ _ h => h) (Or.inr ⟨by rfl, rfl⟩) (by assumption) ?rcd13
      case rcd13 =>
      try simp only [Act.put, List.setIfInBounds_toArray, List.set_cons_zero, List.set_cons_succ, List.getElem_toArray, List.getElem_cons_zero, List.getElem_cons_succ]
      refine wpAnyH_take (i := 14) (v := .bool true) rfl (by kernel_rfl) (by kernel_rfl) (by kernel_rfl) (fun _ _ _ h => h) (Or.inl ⟨by rfl, ?ycd14⟩) (by assumption) ?rcd14
      case ycd14 => (intro w hSw; (try dsimp only at hSw); (try simp only [List.getElem_toArray, List.getElem_cons_zero, List.getElem_cons_succ]); go_simp; try with_reducible rfl)
      case rcd14 =>
      try simp only [Act.put, List.setIfInBounds_toArray, List.set_cons_zero, List.set_cons_succ, List.getElem_toArray, List.getElem_cons_zero, List.getElem_cons_succ]
      refine wpAnyH_take (i := 15) (v := .bool true) rfl (by kernel_rfl) (by kernel_rfl) (by kernel_rfl) (fun _ _ _ h => h) (Or.inl ⟨by rfl, ?ycd15⟩) (by assumption) ?rcd15
      case ycd15 => (intro w hSw; (try dsimp only at hSw); (try simp only [List.getElem_toArray, List.getElem_cons_zero, List.getElem_cons_succ]); go_simp; try with_reducible rfl)
      case rcd15 =>
      try simp only [Act.put, List.setIfInBounds_toArray, List.set_cons_zero, List.set_cons_succ, List.getElem_toArray, List.getElem_cons_zero, List.getElem_cons_succ]
      refine wpAnyH_take (i := 16) (v := .bool true) rfl (by kernel_rfl) (by kernel_rfl) (by kernel_rfl) (fun _ _ _ h => h) (Or.inl ⟨by rfl, ?ycd16⟩) (by assumption) ?rcd16
      case ycd16 => (intro w hSw; (try dsimp only at hSw); (try simp only [List.getElem_toArray, List.getElem_cons_zero, List.getElem_cons_succ]); go_simp; try with_reducible rfl)
      case rcd16 =>
      try simp only [Act.put, List.setIfInBounds_toArray, List.set_cons_zero, List.set_cons_succ, List.getElem_toArray, List.getElem_cons_zero, List.getElem_cons_succ]
      refine wpAnyH_take (i := 17) (v := .agg (xs.map (Value.int .u8)).toArray) rfl (by kernel_rfl) (by kernel_rfl) (by kernel_rfl) (fun _ _ _ h => h) (Or.inl ⟨by rfl, ?ycd17⟩) (by assumption) ?rcd17
      case ycd17 => (intro wq hSw; exact exec_load_mid _ _ 24 _ rfl w.heap.size 0 rfl (xs.map (Value.int .u8)) _ _ hSw.1.range Tryd.underlying24 rfl hix)
      case rcd17 =>
      try simp only [Act.put, List.setIfInBounds_toArray, List.set_cons_zero, List.set_cons_succ, List.getElem_toArray, List.getElem_cons_zero, List.getElem_cons_succ]
      refine wpAnyH_take (i := 18) (v := .agg (ys.map (Value.int .u8)).toArray) rfl (by kernel_rfl) (by kernel_rfl) (by kernel_rfl) (fun _ _ _ h => h) (Or.inl ⟨by rfl, ?ycd18⟩) (by assumption) ?rcd18
      case ycd18 => (intro wq hSw; exact exec_load_mid _ _ 24 _ rfl (w.heap.size + 1) 0 rfl (ys.map (Value.int .u8)) _ _ hSw.2.1.range Tryd.underlying24 rfl hiy)
      case rcd18 =>
      try simp only [Act.put, List.setIfInBounds_toArray, List.set_cons_zero, List.set_cons_succ, List.getElem_toArray, List.getElem_cons_zero, List.getElem_cons_succ]
      refine wpAnyH_take (i := 20) (v := .agg (xs.map (Value.int .u8)).toArray) rfl (by kernel_rfl) (by kernel_rfl) (by kernel_rfl) (fun _ _ _ h => h) (Or.inl ⟨by rfl, ?ycd20⟩) (by assumption) ?rcd20
      case ycd20 => (intro wq hSw; exact exec_load_mid _ _ 24 _ rfl w.heap.size 0 rfl (xs.map (Value.int .u8)) _ _ hSw.1.range Tryd.underlying24 rfl hix)
      case rcd20 =>
      try simp only [Act.put, List.setIfInBounds_toArray, List.set_cons_zero, List.set_cons_succ, List.getElem_toArray, List.getElem_cons_zero, List.getElem_cons_succ]
      refine wpAnyH_take (i := 22) (v := .agg (ys.map (Value.int .u8)).toArray) rfl (by kernel_rfl) (by kernel_rfl) (by kernel_rfl) (fun _ _ _ h => h) (Or.inl ⟨by rfl, ?ycd22⟩) (by assumption) ?rcd22
      case ycd22 => (intro wq hSw; exact exec_load_mid _ _ 24 _ rfl (w.heap.size + 1) 0 rfl (ys.map (Value.int .u8)) _ _ hSw.2.1.range Tryd.underlying24 rfl hiy)
      case rcd22 =>
      try simp only [Act.put, List.setIfInBounds_toArray, List.set_cons_zero, List.set_cons_succ, List.getElem_toArray, List.getElem_cons_zero, List.getElem_cons_succ]
      refine wpAnyH_ready (rs := [19]) (by kernel_rfl) (by simp) ?_
      refine AllReadyH.cons rfl (fun K hK => ?_) AllReadyH.nil
      rw [if_pos (by rfl)]
      go_simp
      refine (less_any xs ys _ hlx hly).mono ?_
      rintro r w6 ⟨rfl, t6⟩
      have T6 := T5.trans t6 (fun _ _ => id)
      have hS6 : BytesAt w6 w.heap.size 24 xs ∧ BytesAt w6 (w.heap.size + 1) 24 ys ∧ BytesAt w6 (w.heap.size + 1 + 1) 24 zs := ⟨hS5.1.turn t6 id, hS5.2.1.turn t6 id, hS5.2.2.turn t6 id⟩
      rw [hab]
      refine hK.out _ _ hS6 (fun _ => ?_)
      clear hK K
      try simp only [Act.put, List.setIfInBounds_toArray, List.set_cons_zero, List.set_cons_succ, List.getElem_toArray, List.getElem_cons_zero, List.getElem_cons_succ]
      refine wpAnyH_ready (rs := [21]) (by kernel_rfl) (by simp) ?_
      refine AllReadyH.cons rfl (fun K hK => ?_) AllReadyH.nil
      rw [if_pos (by rfl)]
      go_simp
      refine (text_any xs _ hlx hbx).mono ?_
      rintro r w7 ⟨rfl, t7⟩
      have T7 := T6.trans t7 (fun _ _ => id)
      have hS7 : BytesAt w7 w.heap.size 24 xs ∧ BytesAt w7 (w.heap.size + 1) 24 ys ∧ BytesAt w7 (w.heap.size + 1 + 1) 24 zs := ⟨hS6.1.turn t7 id, hS6.2.1.turn t7 id, hS6.2.2.turn t7 id⟩
      rw [HSX.out]
      refine hK.out _ _ hS7 (fun _ => ?_)
      clear hK K
      try simp only [Act.put, List.setIfInBounds_toArray, List.set_cons_zero, List.set_cons_succ, List.getElem_toArray, List.getElem_cons_zero, List.getElem_cons_succ]
      refine wpAnyH_ready (rs := [23]) (by kernel_rfl) (by simp) ?_
      refine AllReadyH.cons rfl (fun K hK => ?_) AllReadyH.nil
      rw [if_pos (by rfl)]
      go_simp
      refine (text_any ys _ hly hby).mono ?_
      rintro r w8 ⟨rfl, t8⟩
      have T8 := T7.trans t8 (fun _ _ => id)
      have hS8 : BytesAt w8 w.heap.size 24 xs ∧ BytesAt w8 (w.heap.size + 1) 24 ys ∧ BytesAt w8 (w.heap.size + 1 + 1) 24 zs := ⟨hS7.1.turn t8 id, hS7.2.1.turn t8 id, hS7.2.2.turn t8 id⟩
      rw [HSY.out]
      refine hK.out _ _ hS8 (fun _ => ?_)
      clear hK K
      try simp only [Act.put, List.setIfInBounds_toArray, List.set_cons_zero, List.set_cons_succ, List.getElem_toArray, List.getElem_cons_zero, List.getElem_cons_succ]
      have htx : Op.bytesLess sx.toList sy.toList = false := HTX.out.trans hab
      refine wpAnyH_take (i := 24) (v := .bool false) rfl (by kernel_rfl) (by kernel_rfl) (by kernel_rfl) (fun _ _ _ h => h) (Or.inl ⟨by rfl, ?ycd24⟩) (by assumption) ?rcd24
      case ycd24 => (intro w hSw; (try dsimp only at hSw); (try simp only [List.getElem_toArray, List.getElem_cons_zero, List.getElem_cons_succ]); go_simp; try with_reducible rfl)
      case rcd24 =>
      try simp only [Act.put, List.setIfInBounds_toArray, List.set_cons_zero, List.set_cons_succ, List.getElem_toArray, List.getElem_cons_zero, List.getElem_cons_succ]
      refine wpAnyH_take (i := 25) (v := .bool true) rfl (by kernel_rfl) (by kernel_rfl) (by kernel_rfl) (fun _ _ _ h => h) (Or.inl ⟨by rfl, ?ycd25⟩) (by assumption) ?rcd25
      case ycd25 => (intro w hSw; (try dsimp only at hSw); (try simp only [List.getElem_toArray, List.getElem_cons_zero, List.getElem_cons_succ]); go_simp; try with_reducible rfl)
      case rcd25 =>
      try simp only [Act.put, List.setIfInBounds_toArray, List.set_cons_zero, List.set_cons_succ, List.getElem_toArray, List.getElem_cons_zero, List.getElem_cons_succ]
      refine wpAnyH_take (i := 26) (v := .bool true) rfl (by kernel_rfl) (by kernel_rfl) (by kernel_rfl) (fun _ _ _ h => h) (Or.inl ⟨by rfl, ?ycd26⟩) (by assumption) ?rcd26
      case ycd26 => (intro w hSw; (try dsimp only at hSw); (try simp only [List.getElem_toArray, List.getElem_cons_zero, List.getElem_cons_succ]); go_simp; try with_reducible rfl)
      case rcd26 =>
      try simp only [Act.put, List.setIfInBounds_toArray, List.set_cons_zero, List.set_cons_succ, List.getElem_toArray, List.getElem_cons_zero, List.getElem_cons_succ]
      refine wpAnyH_take (i := 27) (v := .bool true) rfl (by kernel_rfl) (by kernel_rfl) (by kernel_rfl) (fun _ _ _ h => h) (Or.inl ⟨by rfl, ?ycd27⟩) (by assumption) ?rcd27
      case ycd27 => (intro w hSw; (try dsimp only at hSw); (try simp only [List.getElem_toArray, List.getElem_cons_zero, List.getElem_cons_succ]); go_simp; try with_reducible rfl)
      case rcd27 =>
      try simp only [Act.put, List.setIfInBounds_toArray, List.set_cons_zero, List.set_cons_succ, List.getElem_toArray, List.getElem_cons_zero, List.getElem_cons_succ]
      refine wpAnyH_done (by kernel_rfl) ?_ _
      go_wp2
      go_ret
      exact ⟨rfl, T8⟩

theorem byt_wrap (x : Int) : Byt (IntKind.u8.wrap x) := by
  have : 0 ≤ IntKind.u8.wrap x ∧ IntKind.u8.wrap x ≤ 255 := by simpa [Lit.wf, IntKind.min, IntKind.max, IntKind.signed, IntKind.bits] using wf_wrap .u8 x
  exact ⟨by omega, by omega⟩
theorem byt_mod (x : Int) : Byt (x % 256) := ⟨by omega, by omega⟩
theorem near_y {w W W' : World} {xs us vs : List Int} {i : Nat} {v : Int} (hS : BytesAt W w.heap.size 24 xs ∧ BytesAt W (w.heap.size + 1) 24 us ∧ BytesAt W (w.heap.size + 1 + 1) 24 vs) (hT : Turn (fun _ => False) w W) (hl : us.length = 32) (hb : ∀ x ∈ us, Byt x) (hv : Byt v)
    (h : W.setCell ⟨w.heap.size + 1, i, none⟩ (.int .u8 v) = W') : ∃ ys : List Int, ys.length = 32 ∧ (∀ y ∈ ys, Byt y) ∧ (BytesAt W' w.heap.size 24 xs ∧ BytesAt W' (w.heap.size + 1) 24 ys ∧ BytesAt W' (w.heap.size + 1 + 1) 24 vs) ∧ Turn (fun _ => False) w W' := by
  subst h
  have t := Turn.setCell (S := fun k => k = w.heap.size + 1) (Turn.refl _ W) (p := ⟨w.heap.size + 1, i, none⟩) (fun _ => rfl) (.int .u8 v)
  exact ⟨us.set i v, by simp [hl], byt_set hb i hv, ⟨hS.1.turn t (by omega), hS.2.1.set i v, hS.2.2.turn t (by omega)⟩, Turn.setCell hT (p := ⟨w.heap.size + 1, i, none⟩) (fun h => by simp only at h; omega) _⟩
theorem near_z {w W W' : World} {xs us vs : List Int} {i : Nat} {v : Int} (hS : BytesAt W w.heap.size 24 xs ∧ BytesAt W (w.heap.size + 1) 24 us ∧ BytesAt W (w.heap.size + 1 + 1) 24 vs) (hT : Turn (fun _ => False) w W) (hl : vs.length = 32) (hb : ∀ x ∈ vs, Byt x) (hv : Byt v)
    (h : W.setCell ⟨w.heap.size + 1 + 1, i, none⟩ (.int .u8 v) = W') : ∃ zs : List Int, zs.length = 32 ∧ (∀ y ∈ zs, Byt y) ∧ (BytesAt W' w.heap.size 24 xs ∧ BytesAt W' (w.heap.size + 1) 24 us ∧ BytesAt W' (w.heap.size + 1 + 1) 24 zs) ∧ Turn (fun _ => False) w W' := by
  subst h
  have t := Turn.setCell (S := fun k => k = w.heap.size + 1 + 1) (Turn.refl _ W) (p := ⟨w.heap.size + 1 + 1, i, none⟩) (fun _ => rfl) (.int .u8 v)
  exact ⟨vs.set i v, by simp [hl], byt_set hb i hv, ⟨hS.1.turn t (by omega), hS.2.1.turn t (by omega), hS.2.2.set i v⟩, Turn.setCell hT (p := ⟨w.heap.size + 1 + 1, i, none⟩) (fun h => by simp only at h; omega) _⟩
theorem all_y {w W W' : World} {xs us vs ys : List Int} (hS : BytesAt W w.heap.size 24 xs ∧ BytesAt W (w.heap.size + 1) 24 us ∧ BytesAt W (w.heap.size + 1 + 1) 24 vs) (hT : Turn (fun _ => False) w W) (hl : us.length = ys.length)
    (h : W.setCells (w.heap.size + 1) 0 (ys.map (Value.int .u8)) = W') : (BytesAt W' w.heap.size 24 xs ∧ BytesAt W' (w.heap.size + 1) 24 ys ∧ BytesAt W' (w.heap.size + 1 + 1) 24 vs) ∧ Turn (fun _ => False) w W' := by
  subst h
  have t := turn_setCells (w.heap.size + 1) (ys.map (Value.int .u8)) 0 W
  exact ⟨⟨hS.1.turn t (by omega), hS.2.1.setAll ys hl, hS.2.2.turn t (by omega)⟩, hT.trans t (fun q hq h => by omega)⟩
theorem all_z {w W W' : World} {xs us vs ys : List Int} (hS : BytesAt W w.heap.size 24 xs ∧ BytesAt W (w.heap.size + 1) 24 us ∧ BytesAt W (w.heap.size + 1 + 1) 24 vs) (hT : Turn (fun _ => False) w W) (hl : vs.length = ys.length)
    (h : W.setCells (w.heap.size + 1 + 1) 0 (ys.map (Value.int .u8)) = W') : (BytesAt W' w.heap.size 24 xs ∧ BytesAt W' (w.heap.size + 1) 24 us ∧ BytesAt W' (w.heap.size + 1 + 1) 24 ys) ∧ Turn (fun _ => False) w W' := by
  subst h
  have t := turn_setCells (w.heap.size + 1 + 1) (ys.map (Value.int .u8)) 0 W
  exact ⟨⟨hS.1.turn t (by omega), hS.2.1.turn t (by omega), hS.2.2.setAll ys hl⟩, hT.trans t (fun q hq h => by omega)⟩
theorem there_of {w : World} {B : Nat} {us xs : List Int} (h : BytesAt w B 24 us) (hu : us.length = 32) (hx : xs.length = 32) : w.there B 0 (xs.map (Value.int .u8)).toArray.size := by
  have hh := h.there
  simpa [hu, hx] using hh
theorem info24 {xs : List Int} (hx : xs.length = 32) : (Tryd.prog.info? 24).map (·.size) = some (xs.map (Value.int .u8)).toArray.size := by rw [size24]; simp [hx]
theorem info24' {xs : List Int} (hx : xs.length = 32) : (Tryd.prog.info? 24).map (·.size) = some (xs.map (Value.int .u8)).length := by rw [size24]; simp [hx]

set_option maxHeartbeats 4000000 in
set_option maxRecDepth 100000 in
theorem srows_yes (xs us vs : List Int) (w : World) (hlx : xs.length = 32) (hlu : us.length = 32) (hlv : vs.length = 32) (hbx : ∀ x ∈ xs, Byt x) (ht : Tables w) :
    Calls Tryd.prog 8 #[.agg (xs.map (Value.int .u8)).toArray, .agg (us.map (Value.int .u8)).toArray, .agg (vs.map (Value.int .u8)).toArray, .bool true] w fun e w' => e = .returned (.bool true) ∧ Turn (fun _ => False) w w' := by
  have HT := Lib.hid ht
  clear ht
  go_enter Tryd.func8, Tryd.ntmps8
  go_wp2_with (first | (generalize hW : World.alloc (World.alloc (World.alloc w _) _) _ = W; obtain ⟨p, pT⟩ := three24 w W xs us vs hW; clear hW; refine wpList_load_want (op := ⟨some 10, .load 24 (.tmp 4), _, _, _, _⟩) rfl 24 (.tmp 4) rfl w.heap.size 0 rfl (xs.map (Value.int .u8)) _ p.1.range Tryd.underlying24 rfl (info24' hlx) ?_) | (refine wpList_store_mid (op := ⟨none, .store 24 (.tmp 5) (.tmp 10), _, _, _, _⟩) rfl 24 (.tmp 5) (.tmp 10) rfl (w.heap.size + 1) 0 (xs.map (Value.int .u8)).toArray rfl rfl (there_of p.2.1 hlu hlx) (info24 hlx) (all_oneCell_toArray (ints_oneCell _ _)) ?_; change wpList _ _ _ _ _ (W.setCells (w.heap.size + 1) 0 (xs.map (Value.int .u8))); generalize hW2 : W.setCells (w.heap.size + 1) 0 (xs.map (Value.int .u8)) = W2; obtain ⟨b, bT⟩ := all_y p pT (hlu.trans hlx.symm) hW2; clear hW2; have c31 := b.2.1.cell 31 (by omega); have f31 := b.2.1.open_ 31; generalize xs.getD 31 0 = x31 at c31) | (generalize hW3 : World.setCell W2 _ _ = W3; obtain ⟨ys, hly, hby, d, dT⟩ := near_y b bT hlx hbx (by first | exact byt_mod _ | exact byt_wrap _) hW3; clear hW3 c31 f31 b bT; refine wpList_load_want (op := ⟨some 15, .load 24 (.tmp 5), _, _, _, _⟩) rfl 24 (.tmp 5) rfl (w.heap.size + 1) 0 rfl (ys.map (Value.int .u8)) _ d.2.1.range Tryd.underlying24 rfl (info24' hly) ?_) | (refine wpList_store_mid (op := ⟨none, .store 24 (.tmp 6) (.tmp 15), _, _, _, _⟩) rfl 24 (.tmp 6) (.tmp 15) rfl (w.heap.size + 1 + 1) 0 (ys.map (Value.int .u8)).toArray rfl rfl (there_of d.2.2 hlv hly) (info24 hly) (all_oneCell_toArray (ints_oneCell _ _)) ?_; change wpList _ _ _ _ _ (W3.setCells (w.heap.size + 1 + 1) 0 (ys.map (Value.int .u8))); generalize hW4 : W3.setCells (w.heap.size + 1 + 1) 0 (ys.map (Value.int .u8)) = W4; obtain ⟨g, gT⟩ := all_z d dT (hlv.trans hly.symm) hW4; clear hW4; have c30 := g.2.2.cell 30 (by omega); have f30 := g.2.2.open_ 30; generalize ys.getD 30 0 = x30 at c30) | (generalize hW5 : World.setCell W4 _ _ = w0; obtain ⟨zs, hlz, hbz, hS0, T0⟩ := near_z g gT hly hby (by first | exact byt_mod _ | exact byt_wrap _) hW5; clear hW5 c30 f30 g gT; refine wpList_load_want (op := ⟨some 20, .load 24 (.tmp 4), _, _, _, _⟩) rfl 24 (.tmp 4) rfl w.heap.size 0 rfl (xs.map (Value.int .u8)) _ hS0.1.range Tryd.underlying24 rfl (info24' hlx) ?_) | (refine wpList_load_want (op := ⟨some 21, .load 24 (.tmp 5), _, _, _, _⟩) rfl 24 (.tmp 5) rfl (w.heap.size + 1) 0 rfl (ys.map (Value.int .u8)) _ hS0.2.1.range Tryd.underlying24 rfl (info24' hly) ?_))
  have hix : (Tryd.prog.info? 24).map (·.size) = some (xs.map (Value.int .u8)).length := by rw [size24]; simp [hlx]
  have hiy : (Tryd.prog.info? 24).map (·.size) = some (ys.map (Value.int .u8)).length := by rw [size24]; simp [hly]
  have hiz : (Tryd.prog.info? 24).map (·.size) = some (zs.map (Value.int .u8)).length := by rw [size24]; simp [hlz]
  have htxs := texts_less_str xs ys (hlx.trans hly.symm) hbx hby
  obtain ⟨sx, hsx⟩ : ∃ sx, strOfNums (hexB xs) = sx := ⟨_, rfl⟩
  obtain ⟨sy, hsy⟩ : ∃ sy, strOfNums (hexB ys) = sy := ⟨_, rfl⟩
  rw [hsx, hsy] at htxs
  have HSX := Lib.hid hsx
  have HSY := Lib.hid hsy
  have HTX := Lib.hid htxs
  clear hsx hsy htxs
  rcases Bool.eq_false_or_eq_true (lessB xs ys) with hab | hab
  · refine (less_any xs ys _ hlx hly).mono ?_
    rintro e w1 ⟨rfl, t1⟩
    have T1 := T0.trans t1 (fun _ _ => id)
    have hS1 : BytesAt w1 w.heap.size 24 xs ∧ BytesAt w1 (w.heap.size + 1) 24 ys ∧ BytesAt w1 (w.heap.size + 1 + 1) 24 zs := ⟨hS0.1.turn t1 id, hS0.2.1.turn t1 id, hS0.2.2.turn t1 id⟩
    rw [hab]
    go_wp2_with (first | (refine wpList_load_want (op := ⟨some 24, .load 24 (.tmp 5), _, _, _, _⟩) rfl 24 (.tmp 5) rfl (w.heap.size + 1) 0 rfl (ys.map (Value.int .u8)) _ hS1.2.1.range Tryd.underlying24 rfl hiy ?_) | (refine wpList_load_want (op := ⟨some 25, .load 24 (.tmp 6), _, _, _, _⟩) rfl 24 (.tmp 6) rfl (w.heap.size + 1 + 1) 0 rfl (zs.map (Value.int .u8)) _ hS1.2.2.range Tryd.underlying24 rfl hiz ?_))
    rcases Bool.eq_false_or_eq_true (lessB ys zs) with hbc | hbc
    · refine (less_any ys zs _ hly hlz).mono ?_
      rintro e w2 ⟨rfl, t2⟩
      have T2 := T1.trans t2 (fun _ _ => id)
      have hS2 : BytesAt w2 w.heap.size 24 xs ∧ BytesAt w2 (w.heap.size + 1) 24 ys ∧ BytesAt w2 (w.heap.size + 1 + 1) 24 zs := ⟨hS1.1.turn t2 id, hS1.2.1.turn t2 id, hS1.2.2.turn t2 id⟩
      rw [hbc]
      have hac := lessB_trans xs ys zs (hlx.trans hly.symm) (hly.trans hlz.symm) hbx hby hbz hab hbc
      go_wp2_with (first | (refine wpList_load_want (op := ⟨some 29, .load 24 (.tmp 4), _, _, _, _⟩) rfl 24 (.tmp 4) rfl w.heap.size 0 rfl (xs.map (Value.int .u8)) _ hS2.1.range Tryd.underlying24 rfl hix ?_) | (refine wpList_load_want (op := ⟨some 30, .load 24 (.tmp 6), _, _, _, _⟩) rfl 24 (.tmp 6) rfl (w.heap.size + 1 + 1) 0 rfl (zs.map (Value.int .u8)) _ hS2.2.2.range Tryd.underlying24 rfl hiz ?_))
      refine (less_any xs zs _ hlx hlz).mono ?_
      rintro e w3 ⟨rfl, t3⟩
      have T3 := T2.trans t3 (fun _ _ => id)
      have hS3 : BytesAt w3 w.heap.size 24 xs ∧ BytesAt w3 (w.heap.size + 1) 24 ys ∧ BytesAt w3 (w.heap.size + 1 + 1) 24 zs := ⟨hS2.1.turn t3 id, hS2.2.1.turn t3 id, hS2.2.2.turn t3 id⟩
      rw [hac]
      go_wp2_with fail
      have t4 : Turn (fun _ => False) w3 w3.drew := (Turn.refl _ w3).drew
      generalize hwd : w3.drew = w4 at t4
      have T4 := T3.trans t4 (fun _ _ => id)
      have hS4 : BytesAt w4 w.heap.size 24 xs ∧ BytesAt w4 (w.heap.size + 1) 24 ys ∧ BytesAt w4 (w.heap.size + 1 + 1) 24 zs := ⟨hS3.1.turn t4 id, hS3.2.1.turn t4 id, hS3.2.2.turn t4 id⟩
      refine wp_region_held_drew (S := (fun w' => BytesAt w' w.heap.size 24 xs ∧ BytesAt w' (w.heap.size + 1) 24 ys ∧ BytesAt w' (w.heap.size + 1 + 1) 24 zs)) (by kernel_rfl) (by rw [hwd]; exact hS4) (fun hHeld => ?_)
      rw [hwd] at hHeld ⊢
      clear hwd
      refine wpAnyH_ready (rs := [0]) (by kernel_rfl) (by simp) ?_
      refine AllReadyH.cons rfl (fun K hK => ?_) AllReadyH.nil
      rw [if_pos (by rfl)]
      go_simp
      refine (awake_any _ (HT.out.turn T4)).mono ?_
      rintro r w5 ⟨rfl, t5⟩
      have T5 := T4.trans t5 (fun _ _ => id)
      have hS5 : BytesAt w5 w.heap.size 24 xs ∧ BytesAt w5 (w.heap.size + 1) 24 ys ∧ BytesAt w5 (w.heap.size + 1 + 1) 24 zs := ⟨hS4.1.turn t5 id, hS4.2.1.turn t5 id, hS4.2.2.turn t5 id⟩
      refine hK.out _ _ hS5 (fun _ => ?_)
      clear hK K
      try simp only [Act.put, List.setIfInBounds_toArray, List.set_cons_zero, List.set_cons_succ, List.getElem_toArray, List.getElem_cons_zero, List.getElem_cons_succ]
      refine wpAnyH_take (i := 1) (v := .bool true) rfl (by kernel_rfl) (by kernel_rfl) (by kernel_rfl) (fun _ _ _ h => h) (Or.inl ⟨by rfl, ?ya1⟩) (by assumption) ?ra1
      case ya1 => (intro w hSw; (try dsimp only at hSw); (try simp only [List.getElem_toArray, List.getElem_cons_zero, List.getElem_cons_succ]); go_simp; try with_reducible rfl)
      case ra1 =>
      try simp only [Act.put, List.setIfInBounds_toArray, List.set_cons_zero, List.set_cons_succ, List.getElem_toArray, List.getElem_cons_zero, List.getElem_cons_succ]
      refine wpAnyH_take (i := 2) (v := .agg (xs.map (Value.int .u8)).toArray) rfl (by kernel_rfl) (by kernel_rfl) (by kernel_rfl) (fun _ _ _ h => h) (Or.inl ⟨by rfl, ?ya2⟩) (by assumption) ?ra2
      case ya2 => (intro wq hSw; exact exec_load_mid _ _ 24 _ rfl w.heap.size 0 rfl (xs.map (Value.int .u8)) _ _ hSw.1.range Tryd.underlying24 rfl hix)
      case ra2 =>
      try simp only [Act.put, List.setIfInBounds_toArray, List.set_cons_zero, List.set_cons_succ, List.getElem_toArray, List.getElem_cons_zero, List.getElem_cons_succ]
      refine wpAnyH_take (i := 3) (v := .agg (ys.map (Value.int .u8)).toArray) rfl (by kernel_rfl) (by kernel_rfl) (by kernel_rfl) (fun _ _ _ h => h) (Or.inl ⟨by rfl, ?ya3⟩) (by assumption) ?ra3
      case ya3 => (intro wq hSw; exact exec_load_mid _ _ 24 _ rfl (w.heap.size + 1) 0 rfl (ys.map (Value.int .u8)) _ _ hSw.2.1.range Tryd.underlying24 rfl hiy)
      case ra3 =>
      try simp only [Act.put, List.setIfInBounds_toArray, List.set_cons_zero, List.set_cons_succ, List.getElem_toArray, List.getElem_cons_zero, List.getElem_cons_succ]
      refine wpAnyH_ready (rs := [4]) (by kernel_rfl) (by simp) ?_
      refine AllReadyH.cons rfl (fun K hK => ?_) AllReadyH.nil
      rw [if_pos (by rfl)]
      go_simp
      refine (less_any xs ys _ hlx hly).mono ?_
      rintro r w6 ⟨rfl, t6⟩
      have T6 := T5.trans t6 (fun _ _ => id)
      have hS6 : BytesAt w6 w.heap.size 24 xs ∧ BytesAt w6 (w.heap.size + 1) 24 ys ∧ BytesAt w6 (w.heap.size + 1 + 1) 24 zs := ⟨hS5.1.turn t6 id, hS5.2.1.turn t6 id, hS5.2.2.turn t6 id⟩
      rw [hab]
      refine hK.out _ _ hS6 (fun _ => ?_)
      clear hK K
      try simp only [Act.put, List.setIfInBounds_toArray, List.set_cons_zero, List.set_cons_succ, List.getElem_toArray, List.getElem_cons_zero, List.getElem_cons_succ]
      refine wpAnyH_take (i := 5) (v := .bool true) rfl (by kernel_rfl) (by kernel_rfl) (by kernel_rfl) (fun _ _ _ h => h) (Or.inl ⟨by rfl, ?ya5⟩) (by assumption) ?ra5
      case ya5 => (intro w hSw; (try dsimp only at hSw); (try simp only [List.getElem_toArray, List.getElem_cons_zero, List.getElem_cons_succ]); go_simp; try with_reducible rfl)
      case ra5 =>
      try simp only [Act.put, List.setIfInBounds_toArray, List.set_cons_zero, List.set_cons_succ, List.getElem_toArray, List.getElem_cons_zero, List.getElem_cons_succ]
      refine wpAnyH_take (i := 6) (v := undef) rfl (by kernel_rfl) (by kernel_rfl) (by kernel_rfl) (fun _ _ _ h => h) (Or.inr ⟨by rfl, rfl⟩) (by assumption) ?ra6
      case ra6 =>
      try simp only [Act.put, List.setIfInBounds_toArray, List.set_cons_zero, List.set_cons_succ, List.getElem_toArray, List.getElem_cons_zero, List.getElem_cons_succ]
      refine wpAnyH_take (i := 7) (v := undef) rfl (by kernel_rfl) (by kernel_rfl) (by kernel_rfl) (fun _ _ _ h => h) (Or.inr ⟨by rfl, rfl⟩) (by assumption) ?ra7
      case ra7 =>
      try simp only [Act.put, List.setIfInBounds_toArray, List.set_cons_zero, List.set_cons_succ, List.getElem_toArray, List.getElem_cons_zero, List.getElem_cons_succ]
      refine wpAnyH_take (i := 8) (v := undef) rfl (by kernel_rfl) (by kernel_rfl) (by kernel_rfl) (fun _ _ _ h => h) (Or.inr ⟨by rfl, rfl⟩) (by assumption) ?ra8
      case ra8 =>
      try simp only [Act.put, List.setIfInBounds_toArray, List.set_cons_zero, List.set_cons_succ, List.getElem_toArray, List.getElem_cons_zero, List.getElem_cons_succ]
      refine wpAnyH_take (i := 9) (v := .bool true) rfl (by kernel_rfl) (by kernel_rfl) (by kernel_rfl) (fun _ _ _ h => h) (Or.inl ⟨by rfl, ?ya9⟩) (by assumption) ?ra9
      case ya9 => (intro w hSw; (try dsimp only at hSw); (try simp only [List.getElem_toArray, List.getElem_cons_zero, List.getElem_cons_succ]); go_simp; try with_reducible rfl)
      case ra9 =>
      try simp only [Act.put, List.setIfInBounds_toArray, List.set_cons_zero, List.set_cons_succ, List.getElem_toArray, List.getElem_cons_zero, List.getElem_cons_succ]
      refine wpAnyH_take (i := 10) (v := .bool true) rfl (by kernel_rfl) (by kernel_rfl) (by kernel_rfl) (fun _ _ _ h => h) (Or.inl ⟨by rfl, ?ya10⟩) (by assumption) ?ra10
      case ya10 => (intro w hSw; (try dsimp only at hSw); (try simp only [List.getElem_toArray, List.getElem_cons_zero, List.getElem_cons_succ]); go_simp; try with_reducible rfl)
      case ra10 =>
      try simp only [Act.put, List.setIfInBounds_toArray, List.set_cons_zero, List.set_cons_succ, List.getElem_toArray, List.getElem_cons_zero, List.getElem_cons_succ]
      refine wpAnyH_take (i := 11) (v := undef) rfl (by kernel_rfl) (by kernel_rfl) (by kernel_rfl) (fun _ _ _ h => h) (Or.inr ⟨by rfl, rfl⟩) (by assumption) ?ra11
      case ra11 =>
      try simp only [Act.put, List.setIfInBounds_toArray, List.set_cons_zero, List.set_cons_succ, List.getElem_toArray, List.getElem_cons_zero, List.getElem_cons_succ]
      refine wpAnyH_take (i := 12) (v := undef) rfl (by kernel_rfl) (by kernel_rfl) (by kernel_rfl) (fun _ _ _ h => h) (Or.inr ⟨by rfl, rfl⟩) (by assumption) ?ra12
      case ra12 =>
      try simp only [Act.put, List.setIfInBounds_toArray, List.set_cons_zero, List.set_cons_succ, List.getElem_toArray, List.getElem_cons_zero, List.getElem_cons_succ]
      refine wpAnyH_take (i := 13) (v := undef) rfl (by kernel_rfl) (by kernel_rfl) (by kernel_rfl) (fun _ _ _ h => h) (Or.inr ⟨by rfl, rfl⟩) (by assumption) ?ra13
      case ra13 =>
      try simp only [Act.put, List.setIfInBounds_toArray, List.set_cons_zero, List.set_cons_succ, List.getElem_toArray, List.getElem_cons_zero, List.getElem_cons_succ]
      refine wpAnyH_take (i := 14) (v := .bool true) rfl (by kernel_rfl) (by kernel_rfl) (by kernel_rfl) (fun _ _ _ h => h) (Or.inl ⟨by rfl, ?ya14⟩) (by assumption) ?ra14
      case ya14 => (intro w hSw; (try dsimp only at hSw); (try simp only [List.getElem_toArray, List.getElem_cons_zero, List.getElem_cons_succ]); go_simp; try with_reducible rfl)
      case ra14 =>
      try simp only [Act.put, List.setIfInBounds_toArray, List.set_cons_zero, List.set_cons_succ, List.getElem_toArray, List.getElem_cons_zero, List.getElem_cons_succ]
      refine wpAnyH_take (i := 15) (v := .bool true) rfl (by kernel_rfl) (by kernel_rfl) (by kernel_rfl) (fun _ _ _ h => h) (Or.inl ⟨by rfl, ?ya15⟩) (by assumption) ?ra15
      case ya15 => (intro w hSw; (try dsimp only at hSw); (try simp only [List.getElem_toArray, List.getElem_cons_zero, List.getElem_cons_succ]); go_simp; try with_reducible rfl)
      case ra15 =>
      try simp only [Act.put, List.setIfInBounds_toArray, List.set_cons_zero, List.set_cons_succ, List.getElem_toArray, List.getElem_cons_zero, List.getElem_cons_succ]
      refine wpAnyH_take (i := 16) (v := .bool true) rfl (by kernel_rfl) (by kernel_rfl) (by kernel_rfl) (fun _ _ _ h => h) (Or.inl ⟨by rfl, ?ya16⟩) (by assumption) ?ra16
      case ya16 => (intro w hSw; (try dsimp only at hSw); (try simp only [List.getElem_toArray, List.getElem_cons_zero, List.getElem_cons_succ]); go_simp; try with_reducible rfl)
      case ra16 =>
      try simp only [Act.put, List.setIfInBounds_toArray, List.set_cons_zero, List.set_cons_succ, List.getElem_toArray, List.getElem_cons_zero, List.getElem_cons_succ]
      refine wpAnyH_take (i := 17) (v := .agg (xs.map (Value.int .u8)).toArray) rfl (by kernel_rfl) (by kernel_rfl) (by kernel_rfl) (fun _ _ _ h => h) (Or.inl ⟨by rfl, ?ya17⟩) (by assumption) ?ra17
      case ya17 => (intro wq hSw; exact exec_load_mid _ _ 24 _ rfl w.heap.size 0 rfl (xs.map (Value.int .u8)) _ _ hSw.1.range Tryd.underlying24 rfl hix)
      case ra17 =>
      try simp only [Act.put, List.setIfInBounds_toArray, List.set_cons_zero, List.set_cons_succ, List.getElem_toArray, List.getElem_cons_zero, List.getElem_cons_succ]
      refine wpAnyH_take (i := 18) (v := .agg (ys.map (Value.int .u8)).toArray) rfl (by kernel_rfl) (by kernel_rfl) (by kernel_rfl) (fun _ _ _ h => h) (Or.inl ⟨by rfl, ?ya18⟩) (by assumption) ?ra18
      case ya18 => (intro wq hSw; exact exec_load_mid _ _ 24 _ rfl (w.heap.size + 1) 0 rfl (ys.map (Value.int .u8)) _ _ hSw.2.1.range Tryd.underlying24 rfl hiy)
      case ra18 =>
      try simp only [Act.put, List.setIfInBounds_toArray, List.set_cons_zero, List.set_cons_succ, List.getElem_toArray, List.getElem_cons_zero, List.getElem_cons_succ]
      refine wpAnyH_take (i := 20) (v := .agg (xs.map (Value.int .u8)).toArray) rfl (by kernel_rfl) (by kernel_rfl) (by kernel_rfl) (fun _ _ _ h => h) (Or.inl ⟨by rfl, ?ya20⟩) (by assumption) ?ra20
      case ya20 => (intro wq hSw; exact exec_load_mid _ _ 24 _ rfl w.heap.size 0 rfl (xs.map (Value.int .u8)) _ _ hSw.1.range Tryd.underlying24 rfl hix)
      case ra20 =>
      try simp only [Act.put, List.setIfInBounds_toArray, List.set_cons_zero, List.set_cons_succ, List.getElem_toArray, List.getElem_cons_zero, List.getElem_cons_succ]
      refine wpAnyH_take (i := 22) (v := .agg (ys.map (Value.int .u8)).toArray) rfl (by kernel_rfl) (by kernel_rfl) (by kernel_rfl) (fun _ _ _ h => h) (Or.inl ⟨by rfl, ?ya22⟩) (by assumption) ?ra22
      case ya22 => (intro wq hSw; exact exec_load_mid _ _ 24 _ rfl (w.heap.size + 1) 0 rfl (ys.map (Value.int .u8)) _ _ hSw.2.1.range Tryd.underlying24 rfl hiy)
      case ra22 =>
      try simp only [Act.put, List.setIfInBounds_toArray, List.set_cons_zero, List.set_cons_succ, List.getElem_toArray, List.getElem_cons_zero, List.getElem_cons_succ]
      refine wpAnyH_ready (rs := [19]) (by kernel_rfl) (by simp) ?_
      refine AllReadyH.cons rfl (fun K hK => ?_) AllReadyH.nil
      rw [if_pos (by rfl)]
      go_simp
      refine (less_any xs ys _ hlx hly).mono ?_
      rintro r w7 ⟨rfl, t7⟩
      have T7 := T6.trans t7 (fun _ _ => id)
      have hS7 : BytesAt w7 w.heap.size 24 xs ∧ BytesAt w7 (w.heap.size + 1) 24 ys ∧ BytesAt w7 (w.heap.size + 1 + 1) 24 zs := ⟨hS6.1.turn t7 id, hS6.2.1.turn t7 id, hS6.2.2.turn t7 id⟩
      rw [hab]
      refine hK.out _ _ hS7 (fun _ => ?_)
      clear hK K
      try simp only [Act.put, List.setIfInBounds_toArray, List.set_cons_zero, List.set_cons_succ, List.getElem_toArray, List.getElem_cons_zero, List.getElem_cons_succ]
      refine wpAnyH_ready (rs := [21]) (by kernel_rfl) (by simp) ?_
      refine AllReadyH.cons rfl (fun K hK => ?_) AllReadyH.nil
      rw [if_pos (by rfl)]
      go_simp
      refine (text_any xs _ hlx hbx).mono ?_
      rintro r w8 ⟨rfl, t8⟩
      have T8 := T7.trans t8 (fun _ _ => id)
      have hS8 : BytesAt w8 w.heap.size 24 xs ∧ BytesAt w8 (w.heap.size + 1) 24 ys ∧ BytesAt w8 (w.heap.size + 1 + 1) 24 zs := ⟨hS7.1.turn t8 id, hS7.2.1.turn t8 id, hS7.2.2.turn t8 id⟩
      rw [HSX.out]
      refine hK.out _ _ hS8 (fun _ => ?_)
      clear hK K
      try simp only [Act.put, List.setIfInBounds_toArray, List.set_cons_zero, List.set_cons_succ, List.getElem_toArray, List.getElem_cons_zero, List.getElem_cons_succ]
      refine wpAnyH_ready (rs := [23]) (by kernel_rfl) (by simp) ?_
      refine AllReadyH.cons rfl (fun K hK => ?_) AllReadyH.nil
      rw [if_pos (by rfl)]
      go_simp
      refine (text_any ys _ hly hby).mono ?_
      rintro r w9 ⟨rfl, t9⟩
      have T9 := T8.trans t9 (fun _ _ => id)
      have hS9 : BytesAt w9 w.heap.size 24 xs ∧ BytesAt w9 (w.heap.size + 1) 24 ys ∧ BytesAt w9 (w.heap.size + 1 + 1) 24 zs := ⟨hS8.1.turn t9 id, hS8.2.1.turn t9 id, hS8.2.2.turn t9 id⟩
      rw [HSY.out]
      refine hK.out _ _ hS9 (fun _ => ?_)
      clear hK K
      try simp only [Act.put, List.setIfInBounds_toArray, List.set_cons_zero, List.set_cons_succ, List.getElem_toArray, List.getElem_cons_zero, List.getElem_cons_succ]
      have htx : Op.bytesLess sx.toList sy.toList = true := HTX.out.trans hab
      refine wpAnyH_take (i := 24) (v := .bool true) rfl (by kernel_rfl) (by kernel_rfl) (by kernel_rfl) (fun _ _ _ h => h) (Or.inl ⟨by rfl, ?ya24⟩) (by assumption) ?ra24
      case ya24 => (intro w hSw; (try dsimp only at hSw); (try simp only [List.getElem_toArray, List.getElem_cons_zero, List.getElem_cons_succ]); go_simp; try with_reducible rfl)
      case ra24 =>
      try simp only [Act.put, List.setIfInBounds_toArray, List.set_cons_zero, List.set_cons_succ, List.getElem_toArray, List.getElem_cons_zero, List.getElem_cons_succ]
      refine wpAnyH_take (i := 25) (v := .bool true) rfl (by kernel_rfl) (by kernel_rfl) (by kernel_rfl) (fun _ _ _ h => h) (Or.inl ⟨by rfl, ?ya25⟩) (by assumption) ?ra25
      case ya25 => (intro w hSw; (try dsimp only at hSw); (try simp only [List.getElem_toArray, List.getElem_cons_zero, List.getElem_cons_succ]); go_simp; try with_reducible rfl)
      case ra25 =>
      try simp only [Act.put, List.setIfInBounds_toArray, List.set_cons_zero, List.set_cons_succ, List.getElem_toArray, List.getElem_cons_zero, List.getElem_cons_succ]
      refine wpAnyH_take (i := 26) (v := .bool true) rfl (by kernel_rfl) (by kernel_rfl) (by kernel_rfl) (fun _ _ _ h => h) (Or.inl ⟨by rfl, ?ya26⟩) (by assumption) ?ra26
      case ya26 => (intro w hSw; (try dsimp only at hSw); (try simp only [List.getElem_toArray, List.getElem_cons_zero, List.getElem_cons_succ]); go_simp; try with_reducible rfl)
      case ra26 =>
      try simp only [Act.put, List.setIfInBounds_toArray, List.set_cons_zero, List.set_cons_succ, List.getElem_toArray, List.getElem_cons_zero, List.getElem_cons_succ]
      refine wpAnyH_take (i := 27) (v := .bool true) rfl (by kernel_rfl) (by kernel_rfl) (by kernel_rfl) (fun _ _ _ h => h) (Or.inl ⟨by rfl, ?ya27⟩) (by assumption) ?ra27
      case ya27 => (intro w hSw; (try dsimp only at hSw); (try simp only [List.getElem_toArray, List.getElem_cons_zero, List.getElem_cons_succ]); go_simp; try with_reducible rfl)
      case ra27 =>
      try simp only [Act.put, List.setIfInBounds_toArray, List.set_cons_zero, List.set_cons_succ, List.getElem_toArray, List.getElem_cons_zero, List.getElem_cons_succ]
      refine wpAnyH_done (by kernel_rfl) ?_ _
      go_wp2
      go_ret
      exact ⟨rfl, T9⟩
    · refine (less_any ys zs _ hly hlz).mono ?_
      rintro e w2 ⟨rfl, t2⟩
      have T2 := T1.trans t2 (fun _ _ => id)
      have hS2 : BytesAt w2 w.heap.size 24 xs ∧ BytesAt w2 (w.heap.size + 1) 24 ys ∧ BytesAt w2 (w.heap.size + 1 + 1) 24 zs := ⟨hS1.1.turn t2 id, hS1.2.1.turn t2 id, hS1.2.2.turn t2 id⟩
      rw [hbc]
      go_wp2_with fail
      have t3 : Turn (fun _ => False) w2 w2.drew := (Turn.refl _ w2).drew
      generalize hwd : w2.drew = w3 at t3
      have T3 := T2.trans t3 (fun _ _ => id)
      have hS3 : BytesAt w3 w.heap.size 24 xs ∧ BytesAt w3 (w.heap.size + 1) 24 ys ∧ BytesAt w3 (w.heap.size + 1 + 1) 24 zs := ⟨hS2.1.turn t3 id, hS2.2.1.turn t3 id, hS2.2.2.turn t3 id⟩
      refine wp_region_held_drew (S := (fun w' => BytesAt w' w.heap.size 24 xs ∧ BytesAt w' (w.heap.size + 1) 24 ys ∧ BytesAt w' (w.heap.size + 1 + 1) 24 zs)) (by kernel_rfl) (by rw [hwd]; exact hS3) (fun hHeld => ?_)
      rw [hwd] at hHeld ⊢
      clear hwd
      refine wpAnyH_ready (rs := [0]) (by kernel_rfl) (by simp) ?_
      refine AllReadyH.cons rfl (fun K hK => ?_) AllReadyH.nil
      rw [if_pos (by rfl)]
      go_simp
      refine (awake_any _ (HT.out.turn T3)).mono ?_
      rintro r w4 ⟨rfl, t4⟩
      have T4 := T3.trans t4 (fun _ _ => id)
      have hS4 : BytesAt w4 w.heap.size 24 xs ∧ BytesAt w4 (w.heap.size + 1) 24 ys ∧ BytesAt w4 (w.heap.size + 1 + 1) 24 zs := ⟨hS3.1.turn t4 id, hS3.2.1.turn t4 id, hS3.2.2.turn t4 id⟩
      refine hK.out _ _ hS4 (fun _ => ?_)
      clear hK K
      try simp only [Act.put, List.setIfInBounds_toArray, List.set_cons_zero, List.set_cons_succ, List.getElem_toArray, List.getElem_cons_zero, List.getElem_cons_succ]
      refine wpAnyH_take (i := 1) (v := .bool true) rfl (by kernel_rfl) (by kernel_rfl) (by kernel_rfl) (fun _ _ _ h => h) (Or.inl ⟨by rfl, ?yb1⟩) (by assumption) ?rb1
      case yb1 => (intro w hSw; (try dsimp only at hSw); (try simp only [List.getElem_toArray, List.getElem_cons_zero, List.getElem_cons_succ]); go_simp; try with_reducible rfl)
      case rb1 =>
      try simp only [Act.put, List.setIfInBounds_toArray, List.set_cons_zero, List.set_cons_succ, List.getElem_toArray, List.getElem_cons_zero, List.getElem_cons_succ]
      refine wpAnyH_take (i := 2) (v := .agg (xs.map (Value.int .u8)).toArray) rfl (by kernel_rfl) (by kernel_rfl) (by kernel_rfl) (fun _ _ _ h => h) (Or.inl ⟨by rfl, ?yb2⟩) (by assumption) ?rb2
      case yb2 => (intro wq hSw; exact exec_load_mid _ _ 24 _ rfl w.heap.size 0 rfl (xs.map (Value.int .u8)) _ _ hSw.1.range Tryd.underlying24 rfl hix)
      case rb2 =>
      try simp only [Act.put, List.setIfInBounds_toArray, List.set_cons_zero, List.set_cons_succ, List.getElem_toArray, List.getElem_cons_zero, List.getElem_cons_succ]
      refine wpAnyH_take (i := 3) (v := .agg (ys.map (Value.int .u8)).toArray) rfl (by kernel_rfl) (by kernel_rfl) (by kernel_rfl) (fun _ _ _ h => h) (Or.inl ⟨by rfl, ?yb3⟩) (by assumption) ?rb3
      case yb3 => (intro wq hSw; exact exec_load_mid _ _ 24 _ rfl (w.heap.size + 1) 0 rfl (ys.map (Value.int .u8)) _ _ hSw.2.1.range Tryd.underlying24 rfl hiy)
      case rb3 =>
      try simp only [Act.put, List.setIfInBounds_toArray, List.set_cons_zero, List.set_cons_succ, List.getElem_toArray, List.getElem_cons_zero, List.getElem_cons_succ]
      refine wpAnyH_ready (rs := [4]) (by kernel_rfl) (by simp) ?_
      refine AllReadyH.cons rfl (fun K hK => ?_) AllReadyH.nil
      rw [if_pos (by rfl)]
      go_simp
      refine (less_any xs ys _ hlx hly).mono ?_
      rintro r w5 ⟨rfl, t5⟩
      have T5 := T4.trans t5 (fun _ _ => id)
      have hS5 : BytesAt w5 w.heap.size 24 xs ∧ BytesAt w5 (w.heap.size + 1) 24 ys ∧ BytesAt w5 (w.heap.size + 1 + 1) 24 zs := ⟨hS4.1.turn t5 id, hS4.2.1.turn t5 id, hS4.2.2.turn t5 id⟩
      rw [hab]
      refine hK.out _ _ hS5 (fun _ => ?_)
      clear hK K
      try simp only [Act.put, List.setIfInBounds_toArray, List.set_cons_zero, List.set_cons_succ, List.getElem_toArray, List.getElem_cons_zero, List.getElem_cons_succ]
      refine wpAnyH_take (i := 5) (v := .bool true) rfl (by kernel_rfl) (by kernel_rfl) (by kernel_rfl) (fun _ _ _ h => h) (Or.inl ⟨by rfl, ?yb5⟩) (by assumption) ?rb5
      case yb5 => (intro w hSw; (try dsimp only at hSw); (try simp only [List.getElem_toArray, List.getElem_cons_zero, List.getElem_cons_succ]); go_simp; try with_reducible rfl)
      case rb5 =>
      try simp only [Act.put, List.setIfInBounds_toArray, List.set_cons_zero, List.set_cons_succ, List.getElem_toArray, List.getElem_cons_zero, List.getElem_cons_succ]
      refine wpAnyH_take (i := 6) (v := undef) rfl (by kernel_rfl) (by kernel_rfl) (by kernel_rfl) (fun _ _ _ h => h) (Or.inr ⟨by rfl, rfl⟩) (by assumption) ?rb6
      case rb6 =>
      try simp only [Act.put, List.setIfInBounds_toArray, List.set_cons_zero, List.set_cons_succ, List.getElem_toArray, List.getElem_cons_zero, List.getElem_cons_succ]
      refine wpAnyH_take (i := 7) (v := undef) rfl (by kernel_rfl) (by kernel_rfl) (by kernel_rfl) (fun _ _ _ h => h) (Or.inr ⟨by rfl, rfl⟩) (by assumption) ?rb7
      case rb7 =>
      try simp only [Act.put, List.setIfInBounds_toArray, List.set_cons_zero, List.set_cons_succ, List.getElem_toArray, List.getElem_cons_zero, List.getElem_cons_succ]
      refine wpAnyH_take (i := 8) (v := undef) rfl (by kernel_rfl) (by kernel_rfl) (by kernel_rfl) (fun _ _ _ h => h) (Or.inr ⟨by rfl, rfl⟩) (by assumption) ?rb8
      case rb8 =>
      try simp only [Act.put, List.setIfInBounds_toArray, List.set_cons_zero, List.set_cons_succ, List.getElem_toArray, List.getElem_cons_zero, List.getElem_cons_succ]
      refine wpAnyH_take (i := 9) (v := .bool true) rfl (by kernel_rfl) (by kernel_rfl) (by kernel_rfl) (fun _ _ _ h => h) (Or.inl ⟨by rfl, ?yb9⟩) (by assumption) ?rb9
      case yb9 => (intro w hSw; (try dsimp only at hSw); (try simp only [List.getElem_toArray, List.getElem_cons_zero, List.getElem_cons_succ]); go_simp; try with_reducible rfl)
      case rb9 =>
      try simp only [Act.put, List.setIfInBounds_toArray, List.set_cons_zero, List.set_cons_succ, List.getElem_toArray, List.getElem_cons_zero, List.getElem_cons_succ]
      refine wpAnyH_take (i := 10) (v := .bool true) rfl (by kernel_rfl) (by kernel_rfl) (by kernel_rfl) (fun _ _ _ h => h) (Or.inl ⟨by rfl, ?yb10⟩) (by assumption) ?rb10
      case yb10 => (intro w hSw; (try dsimp only at hSw); (try simp only [List.getElem_toArray, List.getElem_cons_zero, List.getElem_cons_succ]); go_simp; try with_reducible rfl)
      case rb10 =>
      try simp only [Act.put, List.setIfInBounds_toArray, List.set_cons_zero, List.set_cons_succ, List.getElem_toArray, List.getElem_cons_zero, List.getElem_cons_succ]
      refine wpAnyH_take (i := 11) (v := undef) rfl (by kernel_rfl) (by kernel_rfl) (by kernel_rfl) (fun _ _ _ h => h) (Or.inr ⟨by rfl, rfl⟩) (by assumption) ?rb11
      case rb11 =>
      try simp only [Act.put, List.setIfInBounds_toArray, List.set_cons_zero, List.set_cons_succ, List.getElem_toArray, List.getElem_cons_zero, List.getElem_cons_succ]
      refine wpAnyH_take (i := 12) (v := undef) rfl (by kernel_rfl) (by kernel_rfl) (by kernel_rfl) (fun _ _ _ h => h) (Or.inr ⟨by rfl, rfl⟩) (by assumption) ?rb12
      case rb12 =>
      try simp only [Act.put, List.setIfInBounds_toArray, List.set_cons_zero, List.set_cons_succ, List.getElem_toArray, List.getElem_cons_zero, List.getElem_cons_succ]
      refine wpAnyH_take (i := 13) (v := undef) rfl (by kernel_rfl) (by kernel_rfl) (by kernel_rfl) (fun _ _ _ h => h) (Or.inr ⟨by rfl, rfl⟩) (by assumption) ?rb13
      case rb13 =>
      try simp only [Act.put, List.setIfInBounds_toArray, List.set_cons_zero, List.set_cons_succ, List.getElem_toArray, List.getElem_cons_zero, List.getElem_cons_succ]
      refine wpAnyH_take (i := 14) (v := .bool true) rfl (by kernel_rfl) (by kernel_rfl) (by kernel_rfl) (fun _ _ _ h => h) (Or.inl ⟨by rfl, ?yb14⟩) (by assumption) ?rb14
      case yb14 => (intro w hSw; (try dsimp only at hSw); (try simp only [List.getElem_toArray, List.getElem_cons_zero, List.getElem_cons_succ]); go_simp; try with_reducible rfl)
      case rb14 =>
      try simp only [Act.put, List.setIfInBounds_toArray, List.set_cons_zero, List.set_cons_succ, List.getElem_toArray, List.getElem_cons_zero, List.getElem_cons_succ]
      refine wpAnyH_take (i := 15) (v := .bool true) rfl (by kernel_rfl) (by kernel_rfl) (by kernel_rfl) (fun _ _ _ h => h) (Or.inl ⟨by rfl, ?yb15⟩) (by assumption) ?rb15
      case yb15 => (intro w hSw; (try dsimp only at hSw); (try simp only [List.getElem_toArray, List.getElem_cons_zero, List.getElem_cons_succ]); go_simp; try with_reducible rfl)
      case rb15 =>
      try simp only [Act.put, List.setIfInBounds_toArray, List.set_cons_zero, List.set_cons_succ, List.getElem_toArray, List.getElem_cons_zero, List.getElem_cons_succ]
      refine wpAnyH_take (i := 16) (v := .bool true) rfl (by kernel_rfl) (by kernel_rfl) (by kernel_rfl) (fun _ _ _ h => h) (Or.inl ⟨by rfl, ?yb16⟩) (by assumption) ?rb16
      case yb16 => (intro w hSw; (try dsimp only at hSw); (try simp only [List.getElem_toArray, List.getElem_cons_zero, List.getElem_cons_succ]); go_simp; try with_reducible rfl)
      case rb16 =>
      try simp only [Act.put, List.setIfInBounds_toArray, List.set_cons_zero, List.set_cons_succ, List.getElem_toArray, List.getElem_cons_zero, List.getElem_cons_succ]
      refine wpAnyH_take (i := 17) (v := .agg (xs.map (Value.int .u8)).toArray) rfl (by kernel_rfl) (by kernel_rfl) (by kernel_rfl) (fun _ _ _ h => h) (Or.inl ⟨by rfl, ?yb17⟩) (by assumption) ?rb17
      case yb17 => (intro wq hSw; exact exec_load_mid _ _ 24 _ rfl w.heap.size 0 rfl (xs.map (Value.int .u8)) _ _ hSw.1.range Tryd.underlying24 rfl hix)
      case rb17 =>
      try simp only [Act.put, List.setIfInBounds_toArray, List.set_cons_zero, List.set_cons_succ, List.getElem_toArray, List.getElem_cons_zero, List.getElem_cons_succ]
      refine wpAnyH_take (i := 18) (v := .agg (ys.map (Value.int .u8)).toArray) rfl (by kernel_rfl) (by kernel_rfl) (by kernel_rfl) (fun _ _ _ h => h) (Or.inl ⟨by rfl, ?yb18⟩) (by assumption) ?rb18
      case yb18 => (intro wq hSw; exact exec_load_mid _ _ 24 _ rfl (w.heap.size + 1) 0 rfl (ys.map (Value.int .u8)) _ _ hSw.2.1.range Tryd.underlying24 rfl hiy)
      case rb18 =>
      try simp only [Act.put, List.setIfInBounds_toArray, List.set_cons_zero, List.set_cons_succ, List.getElem_toArray, List.getElem_cons_zero, List.getElem_cons_succ]
      refine wpAnyH_take (i := 20) (v := .agg (xs.map (Value.int .u8)).toArray) rfl (by kernel_rfl) (by kernel_rfl) (by kernel_rfl) (fun _ _ _ h => h) (Or.inl ⟨by rfl, ?yb20⟩) (by assumption) ?rb20
      case yb20 => (intro wq hSw; exact exec_load_mid _ _ 24 _ rfl w.heap.size 0 rfl (xs.map (Value.int .u8)) _ _ hSw.1.range Tryd.underlying24 rfl hix)
      case rb20 =>
      try simp only [Act.put, List.setIfInBounds_toArray, List.set_cons_zero, List.set_cons_succ, List.getElem_toArray, List.getElem_cons_zero, List.getElem_cons_succ]
      refine wpAnyH_take (i := 22) (v := .agg (ys.map (Value.int .u8)).toArray) rfl (by kernel_rfl) (by kernel_rfl) (by kernel_rfl) (fun _ _ _ h => h) (Or.inl ⟨by rfl, ?yb22⟩) (by assumption) ?rb22
      case yb22 => (intro wq hSw; exact exec_load_mid _ _ 24 _ rfl (w.heap.size + 1) 0 rfl (ys.map (Value.int .u8)) _ _ hSw.2.1.range Tryd.underlying24 rfl hiy)
      case rb22 =>
      try simp only [Act.put, List.setIfInBounds_toArray, List.set_cons_zero, List.set_cons_succ, List.getElem_toArray, List.getElem_cons_zero, List.getElem_cons_succ]
      refine wpAnyH_ready (rs := [19]) (by kernel_rfl) (by simp) ?_
      refine AllReadyH.cons rfl (fun K hK => ?_) AllReadyH.nil
      rw [if_pos (by rfl)]
      go_simp
      refine (less_any xs ys _ hlx hly).mono ?_
      rintro r w6 ⟨rfl, t6⟩
      have T6 := T5.trans t6 (fun _ _ => id)
      have hS6 : BytesAt w6 w.heap.size 24 xs ∧ BytesAt w6 (w.heap.size + 1) 24 ys ∧ BytesAt w6 (w.heap.size + 1 + 1) 24 zs := ⟨hS5.1.turn t6 id, hS5.2.1.turn t6 id, hS5.2.2.turn t6 id⟩
      rw [hab]
      refine hK.out _ _ hS6 (fun _ => ?_)
      clear hK K
      try simp only [Act.put, List.setIfInBounds_toArray, List.set_cons_zero, List.set_cons_succ, List.getElem_toArray, List.getElem_cons_zero, List.getElem_cons_succ]
      refine wpAnyH_ready (rs := [21]) (by kernel_rfl) (by simp) ?_
      refine AllReadyH.cons rfl (fun K hK => ?_) AllReadyH.nil
      rw [if_pos (by rfl)]
      go_simp
      refine (text_any xs _ hlx hbx).mono ?_
      rintro r w7 ⟨rfl, t7⟩
      have T7 := T6.trans t7 (fun _ _ => id)
      have hS7 : BytesAt w7 w.heap.size 24 xs ∧ BytesAt w7 (w.heap.size + 1) 24 ys ∧ BytesAt w7 (w.heap.size + 1 + 1) 24 zs := ⟨hS6.1.turn t7 id, hS6.2.1.turn t7 id, hS6.2.2.turn t7 id⟩
      rw [HSX.out]
      refine hK.out _ _ hS7 (fun _ => ?_)
      clear hK K
      try simp only [Act.put, List.setIfInBounds_toArray, List.set_cons_zero, List.set_cons_succ, List.getElem_toArray, List.getElem_cons_zero, List.getElem_cons_succ]
      refine wpAnyH_ready (rs := [23]) (by kernel_rfl) (by simp) ?_
      refine AllReadyH.cons rfl (fun K hK => ?_) AllReadyH.nil
      rw [if_pos (by rfl)]
      go_simp
      refine (text_any ys _ hly hby).mono ?_
      rintro r w8 ⟨rfl, t8⟩
      have T8 := T7.trans t8 (fun _ _ => id)
      have hS8 : BytesAt w8 w.heap.size 24 xs ∧ BytesAt w8 (w.heap.size + 1) 24 ys ∧ BytesAt w8 (w.heap.size + 1 + 1) 24 zs := ⟨hS7.1.turn t8 id, hS7.2.1.turn t8 id, hS7.2.2.turn t8 id⟩
      rw [HSY.out]
      refine hK.out _ _ hS8 (fun _ => ?_)
      clear hK K
      try simp only [Act.put, List.setIfInBounds_toArray, List.set_cons_zero, List.set_cons_succ, List.getElem_toArray, List.getElem_cons_zero, List.getElem_cons_succ]
      have htx : Op.bytesLess sx.toList sy.toList = true := HTX.out.trans hab
      refine wpAnyH_take (i := 24) (v := .bool true) rfl (by kernel_rfl) (by kernel_rfl) (by kernel_rfl) (fun _ _ _ h => h) (Or.inl ⟨by rfl, ?yb24⟩) (by assumption) ?rb24
      case yb24 => (intro w hSw; (try dsimp only at hSw); (try simp only [List.getElem_toArray, List.getElem_cons_zero, List.getElem_cons_succ]); go_simp; try with_reducible rfl)
      case rb24 =>
      try simp only [Act.put, List.setIfInBounds_toArray, List.set_cons_zero, List.set_cons_succ, List.getElem_toArray, List.getElem_cons_zero, List.getElem_cons_succ]
      refine wpAnyH_take (i := 25) (v := .bool true) rfl (by kernel_rfl) (by kernel_rfl) (by kernel_rfl) (fun _ _ _ h => h) (Or.inl ⟨by rfl, ?yb25⟩) (by assumption) ?rb25
      case yb25 => (intro w hSw; (try dsimp only at hSw); (try simp only [List.getElem_toArray, List.getElem_cons_zero, List.getElem_cons_succ]); go_simp; try with_reducible rfl)
      case rb25 =>
      try simp only [Act.put, List.setIfInBounds_toArray, List.set_cons_zero, List.set_cons_succ, List.getElem_toArray, List.getElem_cons_zero, List.getElem_cons_succ]
      refine wpAnyH_take (i := 26) (v := .bool true) rfl (by kernel_rfl) (by kernel_rfl) (by kernel_rfl) (fun _ _ _ h => h) (Or.inl ⟨by rfl, ?yb26⟩) (by assumption) ?rb26
      case yb26 => (intro w hSw; (try dsimp only at hSw); (try simp only [List.getElem_toArray, List.getElem_cons_zero, List.getElem_cons_succ]); go_simp; try with_reducible rfl)
      case rb26 =>
      try simp only [Act.put, List.setIfInBounds_toArray, List.set_cons_zero, List.set_cons_succ, List.getElem_toArray, List.getElem_cons_zero, List.getElem_cons_succ]
      refine wpAnyH_take (i := 27) (v := .bool true) rfl (by kernel_rfl) (by kernel_rfl) (by kernel_rfl) (fun _ _ _ h => h) (Or.inl ⟨by rfl, ?yb27⟩) (by assumption) ?rb27
      case yb27 => (intro w hSw; (try dsimp only at hSw); (try simp only [List.getElem_toArray, List.getElem_cons_zero, List.getElem_cons_succ]); go_simp; try with_reducible rfl)
      case rb27 =>
      try simp only [Act.put, List.setIfInBounds_toArray, List.set_cons_zero, List.set_cons_succ, List.getElem_toArray, List.getElem_cons_zero, List.getElem_cons_succ]
      refine wpAnyH_done (by kernel_rfl) ?_ _
      go_wp2
      go_ret
      exact ⟨rfl, T8⟩
  · refine (less_any xs ys _ hlx hly).mono ?_
    rintro e w1 ⟨rfl, t1⟩
    have T1 := T0.trans t1 (fun _ _ => id)
    have hS1 : BytesAt w1 w.heap.size 24 xs ∧ BytesAt w1 (w.heap.size + 1) 24 ys ∧ BytesAt w1 (w.heap.size + 1 + 1) 24 zs := ⟨hS0.1.turn t1 id, hS0.2.1.turn t1 id, hS0.2.2.turn t1 id⟩
    rw [hab]
    go_wp2_with fail
    have t2 : Turn (fun _ => False) w1 w1.drew := (Turn.refl _ w1).drew
    generalize hwd : w1.drew = w2 at t2
    have T2 := T1.trans t2 (fun _ _ => id)
    have hS2 : BytesAt w2 w.heap.size 24 xs ∧ BytesAt w2 (w.heap.size + 1) 24 ys ∧ BytesAt w2 (w.heap.size + 1 + 1) 24 zs := ⟨hS1.1.turn t2 id, hS1.2.1.turn t2 id, hS1.2.2.turn t2 id⟩
    refine wp_region_held_drew (S := (fun w' => BytesAt w' w.heap.size 24 xs ∧ BytesAt w' (w.heap.size + 1) 24 ys ∧ BytesAt w' (w.heap.size + 1 + 1) 24 zs)) (by kernel_rfl) (by rw [hwd]; exact hS2) (fun hHeld => ?_)
    rw [hwd] at hHeld ⊢
    clear hwd
    refine wpAnyH_ready (rs := [0]) (by kernel_rfl) (by simp) ?_
    refine AllReadyH.cons rfl (fun K hK => ?_) AllReadyH.nil
    rw [if_pos (by rfl)]
    go_simp
    refine (awake_any _ (HT.out.turn T2)).mono ?_
    rintro r w3 ⟨rfl, t3⟩
    have T3 := T2.trans t3 (fun _ _ => id)
    have hS3 : BytesAt w3 w.heap.size 24 xs ∧ BytesAt w3 (w.heap.size + 1) 24 ys ∧ BytesAt w3 (w.heap.size + 1 + 1) 24 zs := ⟨hS2.1.turn t3 id, hS2.2.1.turn t3 id, hS2.2.2.turn t3 id⟩
    refine hK.out _ _ hS3 (fun _ => ?_)
    clear hK K
    try simp only [Act.put, List.setIfInBounds_toArray, List.set_cons_zero, List.set_cons_succ, List.getElem_toArray, List.getElem_cons_zero, List.getElem_cons_succ]
    refine wpAnyH_take (i := 1) (v := .bool true) rfl (by kernel_rfl) (by kernel_rfl) (by kernel_rfl) (fun _ _ _ h => h) (Or.inl ⟨by rfl, ?yc1⟩) (by assumption) ?rc1
    case yc1 => (intro w hSw; (try dsimp only at hSw); (try simp only [List.getElem_toArray, List.getElem_cons_zero, List.getElem_cons_succ]); go_simp; try with_reducible rfl)
    case rc1 =>
    try simp only [Act.put, List.setIfInBounds_toArray, List.set_cons_zero, List.set_cons_succ, List.getElem_toArray, List.getElem_cons_zero, List.getElem_cons_succ]
    refine wpAnyH_take (i := 2) (v := .agg (xs.map (Value.int .u8)).toArray) rfl (by kernel_rfl) (by kernel_rfl) (by kernel_rfl) (fun _ _ _ h => h) (Or.inl ⟨by rfl, ?yc2⟩) (by assumption) ?rc2
    case yc2 => (intro wq hSw; exact exec_load_mid _ _ 24 _ rfl w.heap.size 0 rfl (xs.map (Value.int .u8)) _ _ hSw.1.range Tryd.underlying24 rfl hix)
    case rc2 =>
    try simp only [Act.put, List.setIfInBounds_toArray, List.set_cons_zero, List.set_cons_succ, List.getElem_toArray, List.getElem_cons_zero, List.getElem_cons_succ]
    refine wpAnyH_take (i := 3) (v := .agg (ys.map (Value.int .u8)).toArray) rfl (by kernel_rfl) (by kernel_rfl) (by kernel_rfl) (fun _ _ _ h => h) (Or.inl ⟨by rfl, ?yc3⟩) (by assumption) ?rc3
    case yc3 => (intro wq hSw; exact exec_load_mid _ _ 24 _ rfl (w.heap.size + 1) 0 rfl (ys.map (Value.int .u8)) _ _ hSw.2.1.range Tryd.underlying24 rfl hiy)
    case rc3 =>
    try simp only [Act.put, List.setIfInBounds_toArray, List.set_cons_zero, List.set_cons_succ, List.getElem_toArray, List.getElem_cons_zero, List.getElem_cons_succ]
    refine wpAnyH_ready (rs := [4]) (by kernel_rfl) (by simp) ?_
    refine AllReadyH.cons rfl (fun K hK => ?_) AllReadyH.nil
    rw [if_pos (by rfl)]
    go_simp
    refine (less_any xs ys _ hlx hly).mono ?_
    rintro r w4 ⟨rfl, t4⟩
    have T4 := T3.trans t4 (fun _ _ => id)
    have hS4 : BytesAt w4 w.heap.size 24 xs ∧ BytesAt w4 (w.heap.size + 1) 24 ys ∧ BytesAt w4 (w.heap.size + 1 + 1) 24 zs := ⟨hS3.1.turn t4 id, hS3.2.1.turn t4 id, hS3.2.2.turn t4 id⟩
    rw [hab]
    refine hK.out _ _ hS4 (fun _ => ?_)
    clear hK K
    try simp only [Act.put, List.setIfInBounds_toArray, List.set_cons_zero, List.set_cons_succ, List.getElem_toArray, List.getElem_cons_zero, List.getElem_cons_succ]
    refine wpAnyH_take (i := 5) (v := .bool false) rfl (by kernel_rfl) (by kernel_rfl) (by kernel_rfl) (fun _ _ _ h => h) (Or.inl ⟨by rfl, ?yc5⟩) (by assumption) ?rc5
    case yc5 => (intro w hSw; (try dsimp only at hSw); (try simp only [List.getElem_toArray, List.getElem_cons_zero, List.getElem_cons_succ]); go_simp; try with_reducible rfl)
    case rc5 =>
    try simp only [Act.put, List.setIfInBounds_toArray, List.set_cons_zero, List.set_cons_succ, List.getElem_toArray, List.getElem_cons_zero, List.getElem_cons_succ]
    refine wpAnyH_take (i := 6) (v := .agg (ys.map (Value.int .u8)).toArray) rfl (by kernel_rfl) (by kernel_rfl) (by kernel_rfl) (fun _ _ _ h => h) (Or.inl ⟨by rfl, ?yc6⟩) (by assumption) ?rc6
    case yc6 => (intro wq hSw; exact exec_load_mid _ _ 24 _ rfl (w.heap.size + 1) 0 rfl (ys.map (Value.int .u8)) _ _ hSw.2.1.range Tryd.underlying24 rfl hiy)
    case rc6 =>
    try simp only [Act.put, List.setIfInBounds_toArray, List.set_cons_zero, List.set_cons_succ, List.getElem_toArray, List.getElem_cons_zero, List.getElem_cons_succ]
    refine wpAnyH_take (i := 7) (v := .agg (xs.map (Value.int .u8)).toArray) rfl (by kernel_rfl) (by kernel_rfl) (by kernel_rfl) (fun _ _ _ h => h) (Or.inl ⟨by rfl, ?yc7⟩) (by assumption) ?rc7
    case yc7 => (intro wq hSw; exact exec_load_mid _ _ 24 _ rfl w.heap.size 0 rfl (xs.map (Value.int .u8)) _ _ hSw.1.range Tryd.underlying24 rfl hix)
    case rc7 =>
    try simp only [Act.put, List.setIfInBounds_toArray, List.set_cons_zero, List.set_cons_succ, List.getElem_toArray, List.getElem_cons_zero, List.getElem_cons_succ]
    by_cases hsame : xs = ys
    · have hq : (xs == ys) = true := by simpa using hsame
      have hba : lessB ys xs = false := by rw [hsame]; exact lessB_irrefl ys hby
      clear hsame
      refine wpAnyH_ready (rs := [8]) (by kernel_rfl) (by simp) ?_
      refine AllReadyH.cons rfl (fun K hK => ?_) AllReadyH.nil
      rw [if_pos (by rfl)]
      go_simp
      refine (less_any ys xs _ hly hlx).mono ?_
      rintro r w5 ⟨rfl, t5⟩
      have T5 := T4.trans t5 (fun _ _ => id)
      have hS5 : BytesAt w5 w.heap.size 24 xs ∧ BytesAt w5 (w.heap.size + 1) 24 ys ∧ BytesAt w5 (w.heap.size + 1 + 1) 24 zs := ⟨hS4.1.turn t5 id, hS4.2.1.turn t5 id, hS4.2.2.turn t5 id⟩
      rw [hba]
      refine hK.out _ _ hS5 (fun _ => ?_)
      clear hK K
      try simp only [Act.put, List.setIfInBounds_toArray, List.set_cons_zero, List.set_cons_succ, List.getElem_toArray, List.getElem_cons_zero, List.getElem_cons_succ]
      refine wpAnyH_take (i := 9) (v := .bool false) rfl (by kernel_rfl) (by kernel_rfl) (by kernel_rfl) (fun _ _ _ h => h) (Or.inl ⟨by rfl, ?ycs9⟩) (by assumption) ?rcs9
      case ycs9 => (intro w hSw; (try dsimp only at hSw); (try simp only [List.getElem_toArray, List.getElem_cons_zero, List.getElem_cons_succ]); go_simp; try with_reducible rfl)
      case rcs9 =>
      try simp only [Act.put, List.setIfInBounds_toArray, List.set_cons_zero, List.set_cons_succ, List.getElem_toArray, List.getElem_cons_zero, List.getElem_cons_succ]
      refine wpAnyH_take (i := 10) (v := .bool false) rfl (by kernel_rfl) (by kernel_rfl) (by kernel_rfl) (fun _ _ _ h => h) (Or.inl ⟨by rfl, ?ycs10⟩) (by assumption) ?rcs10
      case ycs10 => (intro w hSw; (try dsimp only at hSw); (try simp only [List.getElem_toArray, List.getElem_cons_zero, List.getElem_cons_succ]); go_simp; try with_reducible rfl)
      case rcs10 =>
      try simp only [Act.put, List.setIfInBounds_toArray, List.set_cons_zero, List.set_cons_succ, List.getElem_toArray, List.getElem_cons_zero, List.getElem_cons_succ]
      refine wpAnyH_take (i := 11) (v := .agg (xs.map (Value.int .u8)).toArray) rfl (by kernel_rfl) (by kernel_rfl) (by kernel_rfl) (fun _ _ _ h => h) (Or.inl ⟨by rfl, ?ycs11⟩) (by assumption) ?rcs11
      case ycs11 => (intro wq hSw; exact exec_load_mid _ _ 24 _ rfl w.heap.size 0 rfl (xs.map (Value.int .u8)) _ _ hSw.1.range Tryd.underlying24 rfl hix)
      case rcs11 =>
      try simp only [Act.put, List.setIfInBounds_toArray, List.set_cons_zero, List.set_cons_succ, List.getElem_toArray, List.getElem_cons_zero, List.getElem_cons_succ]
      refine wpAnyH_take (i := 12) (v := .agg (ys.map (Value.int .u8)).toArray) rfl (by kernel_rfl) (by kernel_rfl) (by kernel_rfl) (fun _ _ _ h => h) (Or.inl ⟨by rfl, ?ycs12⟩) (by assumption) ?rcs12
      case ycs12 => (intro wq hSw; exact exec_load_mid _ _ 24 _ rfl (w.heap.size + 1) 0 rfl (ys.map (Value.int .u8)) _ _ hSw.2.1.range Tryd.underlying24 rfl hiy)
      case rcs12 =>
      try simp only [Act.put, List.setIfInBounds_toArray, List.set_cons_zero, List.set_cons_succ, List.getElem_toArray, List.getElem_cons_zero, List.getElem_cons_succ]
      refine wpAnyH_take (i := 13) (v := .bool true) rfl (by kernel_rfl) (by kernel_rfl) (by kernel_rfl) (fun _ _ _ h => h) (Or.inl ⟨by rfl, ?ycs13⟩) (by assumption) ?rcs13
      case ycs13 => (intro wq hSw; exact exec_bin _ _ .eql 24 (.tmp 45) (.tmp 46) 24 rfl (.agg (xs.map (Value.int .u8)).toArray) (.agg (ys.map (Value.int .u8)).toArray) _ _ rfl rfl (run_eqGuard_agg (P := Tryd.prog) _ .eql 24 _ _ _ _ (by kernel_rfl)) ((run_same 24 32 Tryd.underlying24 xs ys hlx hly _).trans (by rw [hq])))
      case rcs13 =>
      try simp only [Act.put, List.setIfInBounds_toArray, List.set_cons_zero, List.set_cons_succ, List.getElem_toArray, List.getElem_cons_zero, List.getElem_cons_succ]
      refine wpAnyH_take (i := 14) (v := .bool true) rfl (by kernel_rfl) (by kernel_rfl) (by kernel_rfl) (fun _ _ _ h => h) (Or.inl ⟨by rfl, ?ycs14⟩) (by assumption) ?rcs14
      case ycs14 => (intro w hSw; (try dsimp only at hSw); (try simp only [List.getElem_toArray, List.getElem_cons_zero, List.getElem_cons_succ]); go_simp; try with_reducible rfl)
      case rcs14 =>
      try simp only [Act.put, List.setIfInBounds_toArray, List.set_cons_zero, List.set_cons_succ, List.getElem_toArray, List.getElem_cons_zero, List.getElem_cons_succ]
      refine wpAnyH_take (i := 15) (v := .bool true) rfl (by kernel_rfl) (by kernel_rfl) (by kernel_rfl) (fun _ _ _ h => h) (Or.inl ⟨by rfl, ?ycs15⟩) (by assumption) ?rcs15
      case ycs15 => (intro w hSw; (try dsimp only at hSw); (try simp only [List.getElem_toArray, List.getElem_cons_zero, List.getElem_cons_succ]); go_simp; try with_reducible rfl)
      case rcs15 =>
      try simp only [Act.put, List.setIfInBounds_toArray, List.set_cons_zero, List.set_cons_succ, List.getElem_toArray, List.getElem_cons_zero, List.getElem_cons_succ]
      refine wpAnyH_take (i := 16) (v := .bool true) rfl (by kernel_rfl) (by kernel_rfl) (by kernel_rfl) (fun _ _ _ h => h) (Or.inl ⟨by rfl, ?ycs16⟩) (by assumption) ?rcs16
      case ycs16 => (intro w hSw; (try dsimp only at hSw); (try simp only [List.getElem_toArray, List.getElem_cons_zero, List.getElem_cons_succ]); go_simp; try with_reducible rfl)
      case rcs16 =>
      try simp only [Act.put, List.setIfInBounds_toArray, List.set_cons_zero, List.set_cons_succ, List.getElem_toArray, List.getElem_cons_zero, List.getElem_cons_succ]
      refine wpAnyH_take (i := 17) (v := .agg (xs.map (Value.int .u8)).toArray) rfl (by kernel_rfl) (by kernel_rfl) (by kernel_rfl) (fun _ _ _ h => h) (Or.inl ⟨by rfl, ?ycs17⟩) (by assumption) ?rcs17
      case ycs17 => (intro wq hSw; exact exec_load_mid _ _ 24 _ rfl w.heap.size 0 rfl (xs.map (Value.int .u8)) _ _ hSw.1.range Tryd.underlying24 rfl hix)
      case rcs17 =>
      try simp only [Act.put, List.setIfInBounds_toArray, List.set_cons_zero, List.set_cons_succ, List.getElem_toArray, List.getElem_cons_zero, List.getElem_cons_succ]
      refine wpAnyH_take (i := 18) (v := .agg (ys.map (Value.int .u8)).toArray) rfl (by kernel_rfl) (by kernel_rfl) (by kernel_rfl) (fun _ _ _ h => h) (Or.inl ⟨by rfl, ?ycs18⟩) (by assumption) ?rcs18
      case ycs18 => (intro wq hSw; exact exec_load_mid _ _ 24 _ rfl (w.heap.size + 1) 0 rfl (ys.map (Value.int .u8)) _ _ hSw.2.1.range Tryd.underlying24 rfl hiy)
      case rcs18 =>
      try simp only [Act.put, List.setIfInBounds_toArray, List.set_cons_zero, List.set_cons_succ, List.getElem_toArray, List.getElem_cons_zero, List.getElem_cons_succ]
      refine wpAnyH_take (i := 20) (v := .agg (xs.map (Value.int .u8)).toArray) rfl (by kernel_rfl) (by kernel_rfl) (by kernel_rfl) (fun _ _ _ h => h) (Or.inl ⟨by rfl, ?ycs20⟩) (by assumption) ?rcs20
      case ycs20 => (intro wq hSw; exact exec_load_mid _ _ 24 _ rfl w.heap.size 0 rfl (xs.map (Value.int .u8)) _ _ hSw.1.range Tryd.underlying24 rfl hix)
      case rcs20 =>
      try simp only [Act.put, List.setIfInBounds_toArray, List.set_cons_zero, List.set_cons_succ, List.getElem_toArray, List.getElem_cons_zero, List.getElem_cons_succ]
      refine wpAnyH_take (i := 22) (v := .agg (ys.map (Value.int .u8)).toArray) rfl (by kernel_rfl) (by kernel_rfl) (by kernel_rfl) (fun _ _ _ h => h) (Or.inl ⟨by rfl, ?ycs22⟩) (by assumption) ?rcs22
      case ycs22 => (intro wq hSw; exact exec_load_mid _ _ 24 _ rfl (w.heap.size + 1) 0 rfl (ys.map (Value.int .u8)) _ _ hSw.2.1.range Tryd.underlying24 rfl hiy)
      case rcs22 =>
      try simp only [Act.put, List.setIfInBounds_toArray, List.set_cons_zero, List.set_cons_succ, List.getElem_toArray, List.getElem_cons_zero, List.getElem_cons_succ]
      refine wpAnyH_ready (rs := [19]) (by kernel_rfl) (by simp) ?_
      refine AllReadyH.cons rfl (fun K hK => ?_) AllReadyH.nil
      rw [if_pos (by rfl)]
      go_simp
      refine (less_any xs ys _ hlx hly).mono ?_
      rintro r w6 ⟨rfl, t6⟩
      have T6 := T5.trans t6 (fun _ _ => id)
      have hS6 : BytesAt w6 w.heap.size 24 xs ∧ BytesAt w6 (w.heap.size + 1) 24 ys ∧ BytesAt w6 (w.heap.size + 1 + 1) 24 zs := ⟨hS5.1.turn t6 id, hS5.2.1.turn t6 id, hS5.2.2.turn t6 id⟩
      rw [hab]
      refine hK.out _ _ hS6 (fun _ => ?_)
      clear hK K
      try simp only [Act.put, List.setIfInBounds_toArray, List.set_cons_zero, List.set_cons_succ, List.getElem_toArray, List.getElem_cons_zero, List.getElem_cons_succ]
      refine wpAnyH_ready (rs := [21]) (by kernel_rfl) (by simp) ?_
      refine AllReadyH.cons rfl (fun K hK => ?_) AllReadyH.nil
      rw [if_pos (by rfl)]
      go_simp
      refine (text_any xs _ hlx hbx).mono ?_
      rintro r w7 ⟨rfl, t7⟩
      have T7 := T6.trans t7 (fun _ _ => id)
      have hS7 : BytesAt w7 w.heap.size 24 xs ∧ BytesAt w7 (w.heap.size + 1) 24 ys ∧ BytesAt w7 (w.heap.size + 1 + 1) 24 zs := ⟨hS6.1.turn t7 id, hS6.2.1.turn t7 id, hS6.2.2.turn t7 id⟩
      rw [HSX.out]
      refine hK.out _ _ hS7 (fun _ => ?_)
      clear hK K
      try simp only [Act.put, List.setIfInBounds_toArray, List.set_cons_zero, List.set_cons_succ, List.getElem_toArray, List.getElem_cons_zero, List.getElem_cons_succ]
      refine wpAnyH_ready (rs := [23]) (by kernel_rfl) (by simp) ?_
      refine AllReadyH.cons rfl (fun K hK => ?_) AllReadyH.nil
      rw [if_pos (by rfl)]
      go_simp
      refine (text_any ys _ hly hby).mono ?_
      rintro r w8 ⟨rfl, t8⟩
      have T8 := T7.trans t8 (fun _ _ => id)
      have hS8 : BytesAt w8 w.heap.size 24 xs ∧ BytesAt w8 (w.heap.size + 1) 24 ys ∧ BytesAt w8 (w.heap.size + 1 + 1) 24 zs := ⟨hS7.1.turn t8 id, hS7.2.1.turn t8 id, hS7.2.2.turn t8 id⟩
      rw [HSY.out]
      refine hK.out _ _ hS8 (fun _ => ?_)
      clear hK K
      try simp only [Act.put, List.setIfInBounds_toArray, List.set_cons_zero, List.set_cons_succ, List.getElem_toArray, List.getElem_cons_zero, List.getElem_cons_succ]
      have htx : Op.bytesLess sx.toList sy.toList = false := HTX.out.trans hab
      refine wpAnyH_take (i := 24) (v := .bool false) rfl (by kernel_rfl) (by kernel_rfl) (by kernel_rfl) (fun _ _ _ h => h) (Or.inl ⟨by rfl, ?ycs24⟩) (by assumption) ?rcs24
      case ycs24 => (intro w hSw; (try dsimp only at hSw); (try simp only [List.getElem_toArray, List.getElem_cons_zero, List.getElem_cons_succ]); go_simp; try with_reducible rfl)
      case rcs24 =>
      try simp only [Act.put, List.setIfInBounds_toArray, List.set_cons_zero, List.set_cons_succ, List.getElem_toArray, List.getElem_cons_zero, List.getElem_cons_succ]
      refine wpAnyH_take (i := 25) (v := .bool true) rfl (by kernel_rfl) (by kernel_rfl) (by kernel_rfl) (fun _ _ _ h => h) (Or.inl ⟨by rfl, ?ycs25⟩) (by assumption) ?rcs25
      case ycs25 => (intro w hSw; (try dsimp only at hSw); (try simp only [List.getElem_toArray, List.getElem_cons_zero, List.getElem_cons_succ]); go_simp; try with_reducible rfl)
      case rcs25 =>
      try simp only [Act.put, List.setIfInBounds_toArray, List.set_cons_zero, List.set_cons_succ, List.getElem_toArray, List.getElem_cons_zero, List.getElem_cons_succ]
      refine wpAnyH_take (i := 26) (v := .bool true) rfl (by kernel_rfl) (by kernel_rfl) (by kernel_rfl) (fun _ _ _ h => h) (Or.inl ⟨by rfl, ?ycs26⟩) (by assumption) ?rcs26
      case ycs26 => (intro w hSw; (try dsimp only at hSw); (try simp only [List.getElem_toArray, List.getElem_cons_zero, List.getElem_cons_succ]); go_simp; try with_reducible rfl)
      case rcs26 =>
      try simp only [Act.put, List.setIfInBounds_toArray, List.set_cons_zero, List.set_cons_succ, List.getElem_toArray, List.getElem_cons_zero, List.getElem_cons_succ]
      refine wpAnyH_take (i := 27) (v := .bool true) rfl (by kernel_rfl) (by kernel_rfl) (by kernel_rfl) (fun _ _ _ h => h) (Or.inl ⟨by rfl, ?ycs27⟩) (by assumption) ?rcs27
      case ycs27 => (intro w hSw; (try dsimp only at hSw); (try simp only [List.getElem_toArray, List.getElem_cons_zero, List.getElem_cons_succ]); go_simp; try with_reducible rfl)
      case rcs27 =>
      try simp only [Act.put, List.setIfInBounds_toArray, List.set_cons_zero, List.set_cons_succ, List.getElem_toArray, List.getElem_cons_zero, List.getElem_cons_succ]
      refine wpAnyH_done (by kernel_rfl) ?_ _
      go_wp2
      go_ret
      exact ⟨rfl, T8⟩
    · have hba : lessB ys xs = true := by rw [lessB_anti xs ys (hlx.trans hly.symm) hbx hby hsame, hab]; rfl
      clear hsame
      refine wpAnyH_ready (rs := [8]) (by kernel_rfl) (by simp) ?_
      refine AllReadyH.cons rfl (fun K hK => ?_) AllReadyH.nil
      rw [if_pos (by rfl)]
      go_simp
      refine (less_any ys xs _ hly hlx).mono ?_
      rintro r w5 ⟨rfl, t5⟩
      have T5 := T4.trans t5 (fun _ _ => id)
      have hS5 : BytesAt w5 w.heap.size 24 xs ∧ BytesAt w5 (w.heap.size + 1) 24 ys ∧ BytesAt w5 (w.heap.size + 1 + 1) 24 zs := ⟨hS4.1.turn t5 id, hS4.2.1.turn t5 id, hS4.2.2.turn t5 id⟩
      rw [hba]
      refine hK.out _ _ hS5 (fun _ => ?_)
      clear hK K
      try simp only [Act.put, List.setIfInBounds_toArray, List.set_cons_zero, List.set_cons_succ, List.getElem_toArray, List.getElem_cons_zero, List.getElem_cons_succ]
      refine wpAnyH_take (i := 9) (v := .bool true) rfl (by kernel_rfl) (by kernel_rfl) (by kernel_rfl) (fun _ _ _ h => h) (Or.inl ⟨by rfl, ?ycd9⟩) (by assumption) ?rcd9
      case ycd9 => (intro w hSw; (try dsimp only at hSw); (try simp only [List.getElem_toArray, List.getElem_cons_zero, List.getElem_cons_succ]); go_simp; try with_reducible rfl)
      case rcd9 =>
      try simp only [Act.put, List.setIfInBounds_toArray, List.set_cons_zero, List.set_cons_succ, List.getElem_toArray, List.getElem_cons_zero, List.getElem_cons_succ]
      refine wpAnyH_take (i := 10) (v := .bool true) rfl (by kernel_rfl) (by kernel_rfl) (by kernel_rfl) (fun _ _ _ h => h) (Or.inl ⟨by rfl, ?ycd10⟩) (by assumption) ?rcd10
      case ycd10 => (intro w hSw; (try dsimp only at hSw); (try simp only [List.getElem_toArray, List.getElem_cons_zero, List.getElem_cons_succ]); go_simp; try with_reducible rfl)
      case rcd10 =>
      try simp only [Act.put, List.setIfInBounds_toArray, List.set_cons_zero, List.set_cons_succ, List.getElem_toArray, List.getElem_cons_zero, List.getElem_cons_succ]
      refine wpAnyH_take (i := 11) (v := undef) rfl (by kernel_rfl) (by kernel_rfl) (by kernel_rfl) (fun _ _ _ h => h) (Or.inr ⟨by rfl, rfl⟩) (by assumption) ?rcd11
      case rcd11 =>
      try simp only [Act.put, List.setIfInBounds_toArray, List.set_cons_zero, List.set_cons_succ, List.getElem_toArray, List.getElem_cons_zero, List.getElem_cons_succ]
      refine wpAnyH_take (i := 12) (v := undef) rfl (by kernel_rfl) (by kernel_rfl) (by kernel_rfl) (fun _ _ _ h => h) (Or.inr ⟨by rfl, rfl⟩) (by assumption) ?rcd12
      case rcd12 =>
      try simp only [Act.put, List.setIfInBounds_toArray, List.set_cons_zero, List.set_cons_succ, List.getElem_toArray, List.getElem_cons_zero, List.getElem_cons_succ]
      refine wpAnyH_take (i := 13) (v := undef) rfl (by kernel_rfl) (by kernel_rfl) (by kernel_rfl) (fun _ _ _ h => h) (Or.inr ⟨by rfl, rfl⟩) (by assumption) ?rcd13
      case rcd13 =>
      try simp only [Act.put, List.setIfInBounds_toArray, List.set_cons_zero, List.set_cons_succ, List.getElem_toArray, List.getElem_cons_zero, List.getElem_cons_succ]
      refine wpAnyH_take (i := 14) (v := .bool true) rfl (by kernel_rfl) (by kernel_rfl) (by kernel_rfl) (fun _ _ _ h => h) (Or.inl ⟨by rfl, ?ycd14⟩) (by assumption) ?rcd14
      case ycd14 => (intro w hSw; (try dsimp only at hSw); (try simp only [List.getElem_toArray, List.getElem_cons_zero, List.getElem_cons_succ]); go_simp; try with_reducible rfl)
      case rcd14 =>
      try simp only [Act.put, List.setIfInBounds_toArray, List.set_cons_zero, List.set_cons_succ, List.getElem_toArray, List.getElem_cons_zero, List.getElem_cons_succ]
      refine wpAnyH_take (i := 15) (v := .bool true) rfl (by kernel_rfl) (by kernel_rfl) (by kernel_rfl) (fun _ _ _ h => h) (Or.inl ⟨by rfl, ?ycd15⟩) (by assumption) ?rcd15
      case ycd15 => (intro w hSw; (try dsimp only at hSw); (try simp only [List.getElem_toArray, List.getElem_cons_zero, List.getElem_cons_succ]); go_simp; try with_reducible rfl)
      case rcd15 =>
      try simp only [Act.put, List.setIfInBounds_toArray, List.set_cons_zero, List.set_cons_succ, List.getElem_toArray, List.getElem_cons_zero, List.getElem_cons_succ]
      refine wpAnyH_take (i := 16) (v := .bool true) rfl (by kernel_rfl) (by kernel_rfl) (by kernel_rfl) (fun _ _ _ h => h) (Or.inl ⟨by rfl, ?ycd16⟩) (by assumption) ?rcd16
      case ycd16 => (intro w hSw; (try dsimp only at hSw); (try simp only [List.getElem_toArray, List.getElem_cons_zero, List.getElem_cons_succ]); go_simp; try with_reducible rfl)
      case rcd16 =>
      try simp only [Act.put, List.setIfInBounds_toArray, List.set_cons_zero, List.set_cons_succ, List.getElem_toArray, List.getElem_cons_zero, List.getElem_cons_succ]
      refine wpAnyH_take (i := 17) (v := .agg (xs.map (Value.int .u8)).toArray) rfl (by kernel_rfl) (by kernel_rfl) (by kernel_rfl) (fun _ _ _ h => h) (Or.inl ⟨by rfl, ?ycd17⟩) (by assumption) ?rcd17
      case ycd17 => (intro wq hSw; exact exec_load_mid _ _ 24 _ rfl w.heap.size 0 rfl (xs.map (Value.int .u8)) _ _ hSw.1.range Tryd.underlying24 rfl hix)
      case rcd17 =>
      try simp only [Act.put, List.setIfInBounds_toArray, List.set_cons_zero, List.set_cons_succ, List.getElem_toArray, List.getElem_cons_zero, List.getElem_cons_succ]
      refine wpAnyH_take (i := 18) (v := .agg (ys.map (Value.int .u8)).toArray) rfl (by kernel_rfl) (by kernel_rfl) (by kernel_rfl) (fun _ _ _ h => h) (Or.inl ⟨by rfl, ?ycd18⟩) (by assumption) ?rcd18
      case ycd18 => (intro wq hSw; exact exec_load_mid _ _ 24 _ rfl (w.heap.size + 1) 0 rfl (ys.map (Value.int .u8)) _ _ hSw.2.1.range Tryd.underlying24 rfl hiy)
      case rcd18 =>
      try simp only [Act.put, List.setIfInBounds_toArray, List.set_cons_zero, List.set_cons_succ, List.getElem_toArray, List.getElem_cons_zero, List.getElem_cons_succ]
      refine wpAnyH_take (i := 20) (v := .agg (xs.map (Value.int .u8)).toArray) rfl (by kernel_rfl) (by kernel_rfl) (by kernel_rfl) (fun _ _ _ h => h) (Or.inl ⟨by rfl, ?ycd20⟩) (by assumption) ?rcd20
      case ycd20 => (intro wq hSw; exact exec_load_mid _ _ 24 _ rfl w.heap.size 0 rfl (xs.map (Value.int .u8)) _ _ hSw.1.range Tryd.underlying24 rfl hix)
      case rcd20 =>
      try simp only [Act.put, List.setIfInBounds_toArray, List.set_cons_zero, List.set_cons_succ, List.getElem_toArray, List.getElem_cons_zero, List.getElem_cons_succ]
      refine wpAnyH_take (i := 22) (v := .agg (ys.map (Value.int .u8)).toArray) rfl (by kernel_rfl) (by kernel_rfl) (by kernel_rfl) (fun _ _ _ h => h) (Or.inl ⟨by rfl, ?ycd22⟩) (by assumption) ?rcd22
      case ycd22 => (intro wq hSw; exact exec_load_mid _ _ 24 _ rfl (w.heap.size + 1) 0 rfl (ys.map (Value.int .u8)) _ _ hSw.2.1.range Tryd.underlying24 rfl hiy)
      case rcd22 =>
      try simp only [Act.put, List.setIfInBounds_toArray, List.set_cons_zero, List.set_cons_succ, List.getElem_toArray, List.getElem_cons_zero, List.getElem_cons_succ]
      refine wpAnyH_ready (rs := [19]) (by kernel_rfl) (by simp) ?_
      refine AllReadyH.cons rfl (fun K hK => ?_) AllReadyH.nil
      rw [if_pos (by rfl)]
      go_simp
      refine (less_any xs ys _ hlx hly).mono ?_
      rintro r w6 ⟨rfl, t6⟩
      have T6 := T5.trans t6 (fun _ _ => id)
      have hS6 : BytesAt w6 w.heap.size 24 xs ∧ BytesAt w6 (w.heap.size + 1) 24 ys ∧ BytesAt w6 (w.heap.size + 1 + 1) 24 zs := ⟨hS5.1.turn t6 id, hS5.2.1.turn t6 id, hS5.2.2.turn t6 id⟩
      rw [hab]
      refine hK.out _ _ hS6 (fun _ => ?_)
      clear hK K
      try simp only [Act.put, List.setIfInBounds_toArray, List.set_cons_zero, List.set_cons_succ, List.getElem_toArray, List.getElem_cons_zero, List.getElem_cons_succ]
      refine wpAnyH_ready (rs := [21]) (by kernel_rfl) (by simp) ?_
      refine AllReadyH.cons rfl (fun K hK => ?_) AllReadyH.nil
      rw [if_pos (by rfl)]
      go_simp
      refine (text_any xs _ hlx hbx).mono ?_
      rintro r w7 ⟨rfl, t7⟩
      have T7 := T6.trans t7 (fun _ _ => id)
      have hS7 : BytesAt w7 w.heap.size 24 xs ∧ BytesAt w7 (w.heap.size + 1) 24 ys ∧ BytesAt w7 (w.heap.size + 1 + 1) 24 zs := ⟨hS6.1.turn t7 id, hS6.2.1.turn t7 id, hS6.2.2.turn t7 id⟩
      rw [HSX.out]
      refine hK.out _ _ hS7 (fun _ => ?_)
      clear hK K
      try simp only [Act.put, List.setIfInBounds_toArray, List.set_cons_zero, List.set_cons_succ, List.getElem_toArray, List.getElem_cons_zero, List.getElem_cons_succ]
      refine wpAnyH_ready (rs := [23]) (by kernel_rfl) (by simp) ?_
      refine AllReadyH.cons rfl (fun K hK => ?_) AllReadyH.nil
      rw [if_pos (by rfl)]
      go_simp
      refine (text_any ys _ hly hby).mono ?_
      rintro r w8 ⟨rfl, t8⟩
      have T8 := T7.trans t8 (fun _ _ => id)
      have hS8 : BytesAt w8 w.heap.size 24 xs ∧ BytesAt w8 (w.heap.size + 1) 24 ys ∧ BytesAt w8 (w.heap.size + 1 + 1) 24 zs := ⟨hS7.1.turn t8 id, hS7.2.1.turn t8 id, hS7.2.2.turn t8 id⟩
      rw [HSY.out]
      refine hK.out _ _ hS8 (fun _ => ?_)
      clear hK K
      try simp only [Act.put, List.setIfInBounds_toArray, List.set_cons_zero, List.set_cons_succ, List.getElem_toArray, List.getElem_cons_zero, List.getElem_cons_succ]
      have htx : Op.bytesLess sx.toList sy.toList = false := HTX.out.trans hab
      refine wpAnyH_take (i := 24) (v := .bool false) rfl (by kernel_rfl) (by kernel_rfl) (by kernel_rfl) (fun _ _ _ h => h) (Or.inl ⟨by rfl, ?ycd24⟩) (by assumption) ?rcd24
      case ycd24 => (intro w hSw; (try dsimp only at hSw); (try simp only [List.getElem_toArray, List.getElem_cons_zero, List.getElem_cons_succ]); go_simp; try with_reducible rfl)
      case rcd24 =>
      try simp only [Act.put, List.setIfInBounds_toArray, List.set_cons_zero, List.set_cons_succ, List.getElem_toArray, List.getElem_cons_zero, List.getElem_cons_succ]
      refine wpAnyH_take (i := 25) (v := .bool true) rfl (by kernel_rfl) (by kernel_rfl) (by kernel_rfl) (fun _ _ _ h => h) (Or.inl ⟨by rfl, ?ycd25⟩) (by assumption) ?rcd25
      case ycd25 => (intro w hSw; (try dsimp only at hSw); (try simp only [List.getElem_toArray, List.getElem_cons_zero, List.getElem_cons_succ]); go_simp; try with_reducible rfl)
      case rcd25 =>
      try simp only [Act.put, List.setIfInBounds_toArray, List.set_cons_zero, List.set_cons_succ, List.getElem_toArray, List.getElem_cons_zero, List.getElem_cons_succ]
      refine wpAnyH_take (i := 26) (v := .bool true) rfl (by kernel_rfl) (by kernel_rfl) (by kernel_rfl) (fun _ _ _ h => h) (Or.inl ⟨by rfl, ?ycd26⟩) (by assumption) ?rcd26
      case ycd26 => (intro w hSw; (try dsimp only at hSw); (try simp only [List.getElem_toArray, List.getElem_cons_zero, List.getElem_cons_succ]); go_simp; try with_reducible rfl)
      case rcd26 =>
      try simp only [Act.put, List.setIfInBounds_toArray, List.set_cons_zero, List.set_cons_succ, List.getElem_toArray, List.getElem_cons_zero, List.getElem_cons_succ]
      refine wpAnyH_take (i := 27) (v := .bool true) rfl (by kernel_rfl) (by kernel_rfl) (by kernel_rfl) (fun _ _ _ h => h) (Or.inl ⟨by rfl, ?ycd27⟩) (by assumption) ?rcd27
      case ycd27 => (intro w hSw; (try dsimp only at hSw); (try simp only [List.getElem_toArray, List.getElem_cons_zero, List.getElem_cons_succ]); go_simp; try with_reducible rfl)
      case rcd27 =>
      try simp only [Act.put, List.setIfInBounds_toArray, List.set_cons_zero, List.set_cons_succ, List.getElem_toArray, List.getElem_cons_zero, List.getElem_cons_succ]
      refine wpAnyH_done (by kernel_rfl) ?_ _
      go_wp2
      go_ret
      exact ⟨rfl, T8⟩

theorem srows_walk (xs ys zs : List Int) (near : Bool) (w : World) (hlx : xs.length = 32) (hly : ys.length = 32) (hlz : zs.length = 32) (hbx : ∀ x ∈ xs, Byt x) (hby : ∀ x ∈ ys, Byt x) (hbz : ∀ x ∈ zs, Byt x) (ht : Tables w) :
    Calls Tryd.prog 8 #[.agg (xs.map (Value.int .u8)).toArray, .agg (ys.map (Value.int .u8)).toArray, .agg (zs.map (Value.int .u8)).toArray, .bool near] w fun e w' => e = .returned (.bool true) ∧ Turn (fun _ => False) w w' := by
  cases near
  · exact srows_no xs ys zs w hlx hly hlz hbx hby hbz ht
  · exact srows_yes xs ys zs w hlx hly hlz hbx ht
end Go.Proofs.YtimajdbgeibalaaDoor
