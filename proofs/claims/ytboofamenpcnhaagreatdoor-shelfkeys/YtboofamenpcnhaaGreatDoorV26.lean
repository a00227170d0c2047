/- Own texts, packed: Q38. -/
import Derived.Test.YtboofamenpcnhaaGreatDoorV15
import Derived.Test.YtboofamenpcnhaaGreatDoorV20
import Derived.Test.YtboofamenpcnhaaGreatDoorV21
import Derived.Test.YtboofamenpcnhaaGreatDoorV22
import Derived.Test.YtboofamenpcnhaaGreatDoorV25
import Derived.Test.YtboofamenpcnhaaGreatDoorV00
namespace Go.Proofs.YtboofamenpcnhaaGreatDoor
set_option maxRecDepth 100000
open Go.RowKit
set_option linter.unusedVariables false
set_option linter.unusedSimpArgs false
def slotB (o : Ob) : List Int := [1] ++ o.key ++ fourB o.first ++ fourB o.size
theorem slotB_ok {o : Ob} (h : o.Ok) : BytesOk (slotB o) := fun x hx => by
  simp only [slotB, List.mem_append, List.mem_singleton] at hx
  rcases hx with ((rfl | hx) | hx) | hx
  · omega
  · exact h.ok x hx
  · exact fourB_ok _ x hx
  · exact fourB_ok _ x hx
theorem catN_slot {o : Ob} : catN (fun k => [[1], o.key, fourB o.first, fourB o.size].getD k []) 4 = slotB o := by simp [catN, slotB, List.range_succ]
def SealedPost (w : World) (o : Ob) (e : Ending) (w' : World) : Prop := ∃ g, e = .returned (.slice (some ⟨g, 0, none⟩) 64 64) ∧ BytesAt w' g 5 (sealB (slotB o)) ∧ w.heap.size ≤ g ∧ Turn (fun _ => False) w w'
set_option maxHeartbeats 8000000 in
theorem sealed_any (o : Ob) (ho : o.Ok) (w : World) (ht : Tab w) : Calls Tryz.prog 63 #[.agg o.vals.toArray] w (SealedPost w o) := by
  have hb := box_alloc w 62 o.vals
  obtain ⟨wb, hwb⟩ : ∃ wb, w.alloc (.cells o.vals.toArray 62) = wb := ⟨_, rfl⟩
  rw [hwb] at hb
  have HB0 := Lib.hid hb
  have HBZ := Lib.hid hb.size
  have HBL := Lib.hid (show w.heap.size < wb.heap.size by rw [hb.size]; omega)
  have HTAB := Lib.hid (ht.turn hb.turn)
  have q32 : wb.cell? ⟨w.heap.size, 32, none⟩ = some (.int .i64 o.first) := hb.cell 32 _ (by rw [Ob.vals, List.getElem?_append_right (by simp [ho.len])]; simp [ho.len])
  have q33 : wb.cell? ⟨w.heap.size, 33, none⟩ = some (.int .i64 o.size) := hb.cell 33 _ (by rw [Ob.vals, List.getElem?_append_right (by simp [ho.len])]; simp [ho.len])
  have HKB := Lib.hid (show ∀ i, i < o.key.length → wb.cell? ⟨w.heap.size, 0 + i, none⟩ = some (.int .u8 (o.key.getD i 0)) from fun i hi => by
    rw [Nat.zero_add]
    refine hb.cell i _ ?_
    rw [Ob.vals, List.getElem?_append_left (by simpa using hi)]
    simp [List.getD, hi])
  have HT := Lib.hid (show Turn (fun _ => False) wb wb.drew from (Turn.refl _ wb).drew)
  clear hb ht
  go_enter Tryz.func63, Tryz.ntmps63
  go_wp2_with fail
  refine wp_region_held_drew (S := fun wq => wq.cell? ⟨w.heap.size, 32, none⟩ = some (.int .i64 o.first) ∧ wq.cell? ⟨w.heap.size, 33, none⟩ = some (.int .i64 o.size)) (by kernel_rfl) ⟨q32, q33⟩ (fun hHeld => ?_)
  generalize wb.drew = wd at HT hHeld ⊢
  refine wpAnyH_take (i := 1) (v := .pointer (some ⟨w.heap.size, 0, none⟩)) rfl (by kernel_rfl) (by kernel_rfl) (by kernel_rfl) (fun _ _ _ h => h) (Or.inl ⟨by rfl, ?yq3⟩) (by assumption) ?rq3
  case yq3 => (intro wq hSw; (try simp only [zq1, zq2, zq3]); go_simp; (try with_reducible rfl); all_goals (try omega))
  case rq3 =>
  try simp only [Act.put, zq4, zq5, zq6, zq1, zq2, zq3]
  refine wpAnyH_take (i := 2) (v := .slice (some ⟨w.heap.size, 0, none⟩) 32 32) rfl (by kernel_rfl) (by kernel_rfl) (by kernel_rfl) (fun _ _ _ h => h) (Or.inl ⟨by rfl, ?yq4⟩) (by assumption) ?rq4
  case yq4 => (intro wq hSw; (try simp only [zq1, zq2, zq3]); go_simp; (try with_reducible rfl); all_goals (try omega))
  case rq4 =>
  try simp only [Act.put, zq4, zq5, zq6, zq1, zq2, zq3]
  refine wpAnyH_take (i := 3) (v := .pointer (some ⟨w.heap.size, 32, none⟩)) rfl (by kernel_rfl) (by kernel_rfl) (by kernel_rfl) (fun _ _ _ h => h) (Or.inl ⟨by rfl, ?yq5⟩) (by assumption) ?rq5
  case yq5 => (intro wq hSw; (try simp only [zq1, zq2, zq3]); go_simp; (try with_reducible rfl); all_goals (try omega))
  case rq5 =>
  try simp only [Act.put, zq4, zq5, zq6, zq1, zq2, zq3]
  refine wpAnyH_take (i := 4) (v := .int .i64 o.first) rfl (by kernel_rfl) (by kernel_rfl) (by kernel_rfl) (fun _ _ _ h => h) (Or.inl ⟨by rfl, ?yq6⟩) (by assumption) ?rq6
  case yq6 => (intro wq hSw; obtain ⟨z1, z2⟩ := hSw; (try simp only [zq1, zq2, zq3]); go_simp; (try with_reducible rfl); all_goals (try omega))
  case rq6 =>
  try simp only [Act.put, zq4, zq5, zq6, zq1, zq2, zq3]
  refine wpAnyH_take (i := 6) (v := .pointer (some ⟨w.heap.size, 33, none⟩)) rfl (by kernel_rfl) (by kernel_rfl) (by kernel_rfl) (fun _ _ _ h => h) (Or.inl ⟨by rfl, ?yq1⟩) (by assumption) ?rq1
  case yq1 => (intro wq hSw; (try simp only [zq1, zq2, zq3]); go_simp; (try with_reducible rfl); all_goals (try omega))
  case rq1 =>
  try simp only [Act.put, zq4, zq5, zq6, zq1, zq2, zq3]
  refine wpAnyH_take (i := 7) (v := .int .i64 o.size) rfl (by kernel_rfl) (by kernel_rfl) (by kernel_rfl) (fun _ _ _ h => h) (Or.inl ⟨by rfl, ?yq2⟩) (by assumption) ?rq2
  case yq2 => (intro wq hSw; obtain ⟨z1, z2⟩ := hSw; (try simp only [zq1, zq2, zq3]); go_simp; (try with_reducible rfl); all_goals (try omega))
  case rq2 =>
  try simp only [Act.put, zq4, zq5, zq6, zq1, zq2, zq3]
  refine wpAnyH_ready (rs := [0, 5]) (by kernel_rfl) (by simp) ?_
  refine AllReadyH.cons rfl (fun K hK => ?_) (AllReadyH.cons rfl (fun K hK => ?_) AllReadyH.nil)
  · go_simp
    obtain ⟨w1, hwn⟩ : ∃ w1, wd.alloc (.cells #[.int .u8 1] 5) = w1 := ⟨_, rfl⟩
    obtain ⟨b0, hb0⟩ : ∃ b0, wd.heap.size = b0 := ⟨_, rfl⟩
    have tt : Turn (fun _ => False) wd w1 := by rw [← hwn]; exact (Turn.refl _ wd).alloc _
    have H0 := Lib.hid (show w1.cell? ⟨b0, 0 + 0, none⟩ = some (.int .u8 1) by rw [← hwn, ← hb0]; exact cell_of_row _ _ 0 _ 5 (0, 0) (heap_alloc_new wd _))
    rw [hwn, hb0]
    have HTn := Lib.hid (HT.out.trans tt (fun _ _ => id))
    clear HT
    have HT := HTn
    clear HTn
    refine hK.out _ _ ⟨(HT.out.cell (p := ⟨w.heap.size, 32, none⟩) HBL.out id).trans q32, (HT.out.cell (p := ⟨w.heap.size, 33, none⟩) HBL.out id).trans q33⟩ (fun _ => ?_)
    clear hK K hwn hb0 tt
    try simp only [Act.put, zq4, zq5, zq6, zq1, zq2, zq3]
    refine wpAnyH_ready (rs := [5]) (by kernel_rfl) (by simp) ?_
    refine AllReadyH.cons rfl (fun K hK => ?_) AllReadyH.nil
    go_simp
    refine (four_any o.first w1).mono ?_
    rintro e w2 ⟨w2v, rfl, hrd, hown, tt⟩
    obtain ⟨g4, o4, c4, rfl, h9⟩ := reads_pos hrd (by show (0:Nat) < 4; omega)
    have H4 := Lib.hid h9
    have HTn := Lib.hid (HT.out.trans tt (fun _ _ => id))
    clear HT
    have HT := HTn
    clear HTn
    refine hK.out _ _ ⟨(HT.out.cell (p := ⟨w.heap.size, 32, none⟩) HBL.out id).trans q32, (HT.out.cell (p := ⟨w.heap.size, 33, none⟩) HBL.out id).trans q33⟩ (fun _ => ?_)
    clear hK K hrd hown h9
    have H0n := Lib.hid ((tt.cell (p := ⟨b0, 0 + 0, none⟩) (World.block_lt_of_cell? _ _ H0.out) id).trans H0.out)
    clear H0
    have H0 := H0n
    clear H0n
    clear tt
    try simp only [Act.put, zq4, zq5, zq6, zq1, zq2, zq3]
    refine wpAnyH_ready (rs := [8]) (by kernel_rfl) (by simp) ?_
    refine AllReadyH.cons rfl (fun K hK => ?_) AllReadyH.nil
    go_simp
    refine (four_any o.size w2).mono ?_
    rintro e w3 ⟨w3v, rfl, hrd, hown, tt⟩
    obtain ⟨g5, o5, c5, rfl, h9⟩ := reads_pos hrd (by show (0:Nat) < 4; omega)
    have H5 := Lib.hid h9
    have HTn := Lib.hid (HT.out.trans tt (fun _ _ => id))
    clear HT
    have HT := HTn
    clear HTn
    refine hK.out _ _ ⟨(HT.out.cell (p := ⟨w.heap.size, 32, none⟩) HBL.out id).trans q32, (HT.out.cell (p := ⟨w.heap.size, 33, none⟩) HBL.out id).trans q33⟩ (fun _ => ?_)
    clear hK K hrd hown h9
    have H0n := Lib.hid ((tt.cell (p := ⟨b0, 0 + 0, none⟩) (World.block_lt_of_cell? _ _ H0.out) id).trans H0.out)
    clear H0
    have H0 := H0n
    clear H0n
    have H4n := Lib.hid (fun i hi => (tt.cell (p := ⟨g4, o4 + i, none⟩) (World.block_lt_of_cell? _ _ (H4.out i hi)) id).trans (H4.out i hi))
    clear H4
    have H4 := H4n
    clear H4n
    clear tt
    try simp only [Act.put, zq4, zq5, zq6, zq1, zq2, zq3]
    have hkb : ∀ i, i < o.key.length → w3.cell? ⟨w.heap.size, 0 + i, none⟩ = some (.int .u8 (o.key.getD i 0)) := fun i hi => (HT.out.cell (p := ⟨w.heap.size, 0 + i, none⟩) HBL.out id).trans (HKB.out i hi)
    have HKB2 := Lib.hid hkb
    clear hkb
    refine wpAnyH_ready (rs := [9]) (by kernel_rfl) (by simp) ?_
    refine AllReadyH.cons rfl (fun K hK => ?_) AllReadyH.nil
    go_simp
    refine hK.out _ _ ⟨((HT.out.alloc _).cell (p := ⟨w.heap.size, 32, none⟩) HBL.out id).trans q32, ((HT.out.alloc _).cell (p := ⟨w.heap.size, 33, none⟩) HBL.out id).trans q33⟩ (fun _ => ?_)
    clear hK K
    try simp only [Act.put, zq4, zq5, zq6, zq1, zq2, zq3]
    obtain ⟨wg, hwg⟩ : ∃ wg, w3.alloc (.cells #[.slice (some ⟨b0, 0, none⟩) 1 1, .slice (some ⟨w.heap.size, 0, none⟩) 32 32, .slice (some ⟨g4, o4, none⟩) (fourB o.first).length c4, .slice (some ⟨g5, o5, none⟩) (fourB o.size).length c5] 29) = wg := ⟨_, rfl⟩
    have hng : wg.heap[w3.heap.size]? = some (.cells #[.slice (some ⟨b0, 0, none⟩) 1 1, .slice (some ⟨w.heap.size, 0, none⟩) 32 32, .slice (some ⟨g4, o4, none⟩) (fourB o.first).length c4, .slice (some ⟨g5, o5, none⟩) (fourB o.size).length c5] 29 (0, 0)) := by rw [← hwg]; exact heap_alloc_new w3 _
    have tg : Turn (fun _ => False) w3 wg := by rw [← hwg]; exact (Turn.refl _ w3).alloc _
    rw [hwg]
    have HTG := Lib.hid (HT.out.trans tg (fun _ _ => id))
    have hcc := concat_all wg w3.heap.size 4 4 (Nat.le_refl _) (by omega) (fun k => [b0, w.heap.size, g4, g5].getD k 0) (fun k => [0, 0, o4, o5].getD k 0) (fun k => [1, 32, c4, c5].getD k 0) (fun k => [[1], o.key, fourB o.first, fourB o.size].getD k [])
      (fun k hk => by
        rw [cell_of_row wg w3.heap.size k _ 29 (0, 0) hng]
        rcases (by omega : k = 0 ∨ k = 1 ∨ k = 2 ∨ k = 3) with rfl | rfl | rfl | rfl
        · rfl
        · simp [ho.len]
        · rfl
        · rfl)
      (fun k hk i hi => by
        rcases (by omega : k = 0 ∨ k = 1 ∨ k = 2 ∨ k = 3) with rfl | rfl | rfl | rfl
        · have hi0 : i = 0 := by simp at hi; omega
          subst hi0
          exact (tg.cell (p := ⟨b0, 0 + 0, none⟩) (World.block_lt_of_cell? _ _ H0.out) id).trans H0.out
        · have h9 := HKB2.out i hi
          exact (tg.cell (p := ⟨w.heap.size, 0 + i, none⟩) (World.block_lt_of_cell? _ _ h9) id).trans h9
        · have h9 := H4.out i hi
          exact (tg.cell (p := ⟨g4, o4 + i, none⟩) (World.block_lt_of_cell? _ _ h9) id).trans h9
        · have h9 := H5.out i hi
          exact (tg.cell (p := ⟨g5, o5 + i, none⟩) (World.block_lt_of_cell? _ _ h9) id).trans h9)
      (by rw [catN_slot]; simp [slotB]) (by rw [catN_slot]; simp [slotB, ho.len, fourB])
    rw [catN_slot] at hcc
    have HCC := Lib.hid hcc
    clear hcc hng tg hwg
    refine wpAnyH_ready (rs := [10]) (by kernel_rfl) (by simp) ?_
    refine AllReadyH.cons rfl (fun K hK => ?_) AllReadyH.nil
    go_simp
    refine HCC.out.mono ?_
    rintro e wc ⟨vc, rfl, hrc, hoc, tc⟩
    have HTC := Lib.hid (HTG.out.trans tc (fun _ _ => id))
    have HRC := Lib.hid hrc
    clear hrc hoc tc
    obtain ⟨gc, oc, cc, rfl, -⟩ := reads_pos HRC.out (by simp [slotB])
    refine hK.out _ _ ⟨(HTC.out.cell (p := ⟨w.heap.size, 32, none⟩) HBL.out id).trans q32, (HTC.out.cell (p := ⟨w.heap.size, 33, none⟩) HBL.out id).trans q33⟩ (fun _ => ?_)
    clear hK K
    try simp only [Act.put, zq4, zq5, zq6, zq1, zq2, zq3]
    refine wpAnyH_ready (rs := [11]) (by kernel_rfl) (by simp) ?_
    refine AllReadyH.cons rfl (fun K hK => ?_) AllReadyH.nil
    go_simp
    refine (seal_any _ (slotB o) wc (.inl HRC.out) (slotB_ok ho) (HTAB.out.turn HTC.out)).mono ?_
    rintro e ws ⟨rfl, hbs, ts⟩
    have HTS := Lib.hid (HTC.out.trans ts (fun _ _ => id))
    have HBS := Lib.hid hbs
    have HSZ := Lib.hid (show w.heap.size ≤ wc.heap.size by have := HTC.out.size; have := HBZ.out; omega)
    clear hbs ts
    refine hK.out _ _ ⟨(HTS.out.cell (p := ⟨w.heap.size, 32, none⟩) HBL.out id).trans q32, (HTS.out.cell (p := ⟨w.heap.size, 33, none⟩) HBL.out id).trans q33⟩ (fun _ => ?_)
    clear hK K
    try simp only [Act.put, zq4, zq5, zq6, zq1, zq2, zq3]
    refine wpAnyH_take (i := 12) (v := .slice (some ⟨wc.heap.size, 0, none⟩) 64 64) rfl (by kernel_rfl) (by kernel_rfl) (by kernel_rfl) (fun _ _ _ h => h) (Or.inl ⟨by rfl, ?yq7⟩) (by assumption) ?rq7
    case yq7 => (intro wq hSw; (try simp only [zq1, zq2, zq3]); go_simp; (try with_reducible rfl); all_goals (try omega))
    case rq7 =>
    try simp only [Act.put, zq4, zq5, zq6, zq1, zq2, zq3]
    refine wpAnyH_done (by kernel_rfl) ?_ _
    clear hHeld
    go_wp2_with fail
    go_ret
    exact ⟨wc.heap.size, rfl, HBS.out, HSZ.out, HB0.out.turn.trans HTS.out (fun _ _ => id)⟩
  · go_simp
    refine (four_any o.first wd).mono ?_
    rintro e w2 ⟨w2v, rfl, hrd, hown, tt⟩
    obtain ⟨g4, o4, c4, rfl, h9⟩ := reads_pos hrd (by show (0:Nat) < 4; omega)
    have H4 := Lib.hid h9
    have HTn := Lib.hid (HT.out.trans tt (fun _ _ => id))
    clear HT
    have HT := HTn
    clear HTn
    refine hK.out _ _ ⟨(HT.out.cell (p := ⟨w.heap.size, 32, none⟩) HBL.out id).trans q32, (HT.out.cell (p := ⟨w.heap.size, 33, none⟩) HBL.out id).trans q33⟩ (fun _ => ?_)
    clear hK K hrd hown h9
    clear tt
    try simp only [Act.put, zq4, zq5, zq6, zq1, zq2, zq3]
    refine wpAnyH_ready (rs := [0, 8]) (by kernel_rfl) (by simp) ?_
    refine AllReadyH.cons rfl (fun K hK => ?_) (AllReadyH.cons rfl (fun K hK => ?_) AllReadyH.nil)
    · go_simp
      obtain ⟨w3, hwn⟩ : ∃ w3, w2.alloc (.cells #[.int .u8 1] 5) = w3 := ⟨_, rfl⟩
      obtain ⟨b0, hb0⟩ : ∃ b0, w2.heap.size = b0 := ⟨_, rfl⟩
      have tt : Turn (fun _ => False) w2 w3 := by rw [← hwn]; exact (Turn.refl _ w2).alloc _
      have H0 := Lib.hid (show w3.cell? ⟨b0, 0 + 0, none⟩ = some (.int .u8 1) by rw [← hwn, ← hb0]; exact cell_of_row _ _ 0 _ 5 (0, 0) (heap_alloc_new w2 _))
      rw [hwn, hb0]
      have HTn := Lib.hid (HT.out.trans tt (fun _ _ => id))
      clear HT
      have HT := HTn
      clear HTn
      refine hK.out _ _ ⟨(HT.out.cell (p := ⟨w.heap.size, 32, none⟩) HBL.out id).trans q32, (HT.out.cell (p := ⟨w.heap.size, 33, none⟩) HBL.out id).trans q33⟩ (fun _ => ?_)
      clear hK K hwn hb0
      have H4n := Lib.hid (fun i hi => (tt.cell (p := ⟨g4, o4 + i, none⟩) (World.block_lt_of_cell? _ _ (H4.out i hi)) id).trans (H4.out i hi))
      clear H4
      have H4 := H4n
      clear H4n
      clear tt
      try simp only [Act.put, zq4, zq5, zq6, zq1, zq2, zq3]
      refine wpAnyH_ready (rs := [8]) (by kernel_rfl) (by simp) ?_
      refine AllReadyH.cons rfl (fun K hK => ?_) AllReadyH.nil
      go_simp
      refine (four_any o.size w3).mono ?_
      rintro e w4 ⟨w4v, rfl, hrd, hown, tt⟩
      obtain ⟨g5, o5, c5, rfl, h9⟩ := reads_pos hrd (by show (0:Nat) < 4; omega)
      have H5 := Lib.hid h9
      have HTn := Lib.hid (HT.out.trans tt (fun _ _ => id))
      clear HT
      have HT := HTn
      clear HTn
      refine hK.out _ _ ⟨(HT.out.cell (p := ⟨w.heap.size, 32, none⟩) HBL.out id).trans q32, (HT.out.cell (p := ⟨w.heap.size, 33, none⟩) HBL.out id).trans q33⟩ (fun _ => ?_)
      clear hK K hrd hown h9
      have H0n := Lib.hid ((tt.cell (p := ⟨b0, 0 + 0, none⟩) (World.block_lt_of_cell? _ _ H0.out) id).trans H0.out)
      clear H0
      have H0 := H0n
      clear H0n
      have H4n := Lib.hid (fun i hi => (tt.cell (p := ⟨g4, o4 + i, none⟩) (World.block_lt_of_cell? _ _ (H4.out i hi)) id).trans (H4.out i hi))
      clear H4
      have H4 := H4n
      clear H4n
      clear tt
      try simp only [Act.put, zq4, zq5, zq6, zq1, zq2, zq3]
      have hkb : ∀ i, i < o.key.length → w4.cell? ⟨w.heap.size, 0 + i, none⟩ = some (.int .u8 (o.key.getD i 0)) := fun i hi => (HT.out.cell (p := ⟨w.heap.size, 0 + i, none⟩) HBL.out id).trans (HKB.out i hi)
      have HKB2 := Lib.hid hkb
      clear hkb
      refine wpAnyH_ready (rs := [9]) (by kernel_rfl) (by simp) ?_
      refine AllReadyH.cons rfl (fun K hK => ?_) AllReadyH.nil
      go_simp
      refine hK.out _ _ ⟨((HT.out.alloc _).cell (p := ⟨w.heap.size, 32, none⟩) HBL.out id).trans q32, ((HT.out.alloc _).cell (p := ⟨w.heap.size, 33, none⟩) HBL.out id).trans q33⟩ (fun _ => ?_)
      clear hK K
      try simp only [Act.put, zq4, zq5, zq6, zq1, zq2, zq3]
      obtain ⟨wg, hwg⟩ : ∃ wg, w4.alloc (.cells #[.slice (some ⟨b0, 0, none⟩) 1 1, .slice (some ⟨w.heap.size, 0, none⟩) 32 32, .slice (some ⟨g4, o4, none⟩) (fourB o.first).length c4, .slice (some ⟨g5, o5, none⟩) (fourB o.size).length c5] 29) = wg := ⟨_, rfl⟩
      have hng : wg.heap[w4.heap.size]? = some (.cells #[.slice (some ⟨b0, 0, none⟩) 1 1, .slice (some ⟨w.heap.size, 0, none⟩) 32 32, .slice (some ⟨g4, o4, none⟩) (fourB o.first).length c4, .slice (some ⟨g5, o5, none⟩) (fourB o.size).length c5] 29 (0, 0)) := by rw [← hwg]; exact heap_alloc_new w4 _
      have tg : Turn (fun _ => False) w4 wg := by rw [← hwg]; exact (Turn.refl _ w4).alloc _
      rw [hwg]
      have HTG := Lib.hid (HT.out.trans tg (fun _ _ => id))
      have hcc := concat_all wg w4.heap.size 4 4 (Nat.le_refl _) (by omega) (fun k => [b0, w.heap.size, g4, g5].getD k 0) (fun k => [0, 0, o4, o5].getD k 0) (fun k => [1, 32, c4, c5].getD k 0) (fun k => [[1], o.key, fourB o.first, fourB o.size].getD k [])
        (fun k hk => by
          rw [cell_of_row wg w4.heap.size k _ 29 (0, 0) hng]
          rcases (by omega : k = 0 ∨ k = 1 ∨ k = 2 ∨ k = 3) with rfl | rfl | rfl | rfl
          · rfl
          · simp [ho.len]
          · rfl
          · rfl)
        (fun k hk i hi => by
          rcases (by omega : k = 0 ∨ k = 1 ∨ k = 2 ∨ k = 3) with rfl | rfl | rfl | rfl
          · have hi0 : i = 0 := by simp at hi; omega
            subst hi0
            exact (tg.cell (p := ⟨b0, 0 + 0, none⟩) (World.block_lt_of_cell? _ _ H0.out) id).trans H0.out
          · have h9 := HKB2.out i hi
            exact (tg.cell (p := ⟨w.heap.size, 0 + i, none⟩) (World.block_lt_of_cell? _ _ h9) id).trans h9
          · have h9 := H4.out i hi
            exact (tg.cell (p := ⟨g4, o4 + i, none⟩) (World.block_lt_of_cell? _ _ h9) id).trans h9
          · have h9 := H5.out i hi
            exact (tg.cell (p := ⟨g5, o5 + i, none⟩) (World.block_lt_of_cell? _ _ h9) id).trans h9)
        (by rw [catN_slot]; simp [slotB]) (by rw [catN_slot]; simp [slotB, ho.len, fourB])
      rw [catN_slot] at hcc
      have HCC := Lib.hid hcc
      clear hcc hng tg hwg
      refine wpAnyH_ready (rs := [10]) (by kernel_rfl) (by simp) ?_
      refine AllReadyH.cons rfl (fun K hK => ?_) AllReadyH.nil
      go_simp
      refine HCC.out.mono ?_
      rintro e wc ⟨vc, rfl, hrc, hoc, tc⟩
      have HTC := Lib.hid (HTG.out.trans tc (fun _ _ => id))
      have HRC := Lib.hid hrc
      clear hrc hoc tc
      obtain ⟨gc, oc, cc, rfl, -⟩ := reads_pos HRC.out (by simp [slotB])
      refine hK.out _ _ ⟨(HTC.out.cell (p := ⟨w.heap.size, 32, none⟩) HBL.out id).trans q32, (HTC.out.cell (p := ⟨w.heap.size, 33, none⟩) HBL.out id).trans q33⟩ (fun _ => ?_)
      clear hK K
      try simp only [Act.put, zq4, zq5, zq6, zq1, zq2, zq3]
      refine wpAnyH_ready (rs := [11]) (by kernel_rfl) (by simp) ?_
      refine AllReadyH.cons rfl (fun K hK => ?_) AllReadyH.nil
      go_simp
      refine (seal_any _ (slotB o) wc (.inl HRC.out) (slotB_ok ho) (HTAB.out.turn HTC.out)).mono ?_
      rintro e ws ⟨rfl, hbs, ts⟩
      have HTS := Lib.hid (HTC.out.trans ts (fun _ _ => id))
      have HBS := Lib.hid hbs
      have HSZ := Lib.hid (show w.heap.size ≤ wc.heap.size by have := HTC.out.size; have := HBZ.out; omega)
      clear hbs ts
      refine hK.out _ _ ⟨(HTS.out.cell (p := ⟨w.heap.size, 32, none⟩) HBL.out id).trans q32, (HTS.out.cell (p := ⟨w.heap.size, 33, none⟩) HBL.out id).trans q33⟩ (fun _ => ?_)
      clear hK K
      try simp only [Act.put, zq4, zq5, zq6, zq1, zq2, zq3]
      refine wpAnyH_take (i := 12) (v := .slice (some ⟨wc.heap.size, 0, none⟩) 64 64) rfl (by kernel_rfl) (by kernel_rfl) (by kernel_rfl) (fun _ _ _ h => h) (Or.inl ⟨by rfl, ?yq8⟩) (by assumption) ?rq8
      case yq8 => (intro wq hSw; (try simp only [zq1, zq2, zq3]); go_simp; (try with_reducible rfl); all_goals (try omega))
      case rq8 =>
      try simp only [Act.put, zq4, zq5, zq6, zq1, zq2, zq3]
      refine wpAnyH_done (by kernel_rfl) ?_ _
      clear hHeld
      go_wp2_with fail
      go_ret
      exact ⟨wc.heap.size, rfl, HBS.out, HSZ.out, HB0.out.turn.trans HTS.out (fun _ _ => id)⟩
    · go_simp
      refine (four_any o.size w2).mono ?_
      rintro e w3 ⟨w3v, rfl, hrd, hown, tt⟩
      obtain ⟨g5, o5, c5, rfl, h9⟩ := reads_pos hrd (by show (0:Nat) < 4; omega)
      have H5 := Lib.hid h9
      have HTn := Lib.hid (HT.out.trans tt (fun _ _ => id))
      clear HT
      have HT := HTn
      clear HTn
      refine hK.out _ _ ⟨(HT.out.cell (p := ⟨w.heap.size, 32, none⟩) HBL.out id).trans q32, (HT.out.cell (p := ⟨w.heap.size, 33, none⟩) HBL.out id).trans q33⟩ (fun _ => ?_)
      clear hK K hrd hown h9
      have H4n := Lib.hid (fun i hi => (tt.cell (p := ⟨g4, o4 + i, none⟩) (World.block_lt_of_cell? _ _ (H4.out i hi)) id).trans (H4.out i hi))
      clear H4
      have H4 := H4n
      clear H4n
      clear tt
      try simp only [Act.put, zq4, zq5, zq6, zq1, zq2, zq3]
      refine wpAnyH_ready (rs := [0]) (by kernel_rfl) (by simp) ?_
      refine AllReadyH.cons rfl (fun K hK => ?_) AllReadyH.nil
      go_simp
      obtain ⟨w4, hwn⟩ : ∃ w4, w3.alloc (.cells #[.int .u8 1] 5) = w4 := ⟨_, rfl⟩
      obtain ⟨b0, hb0⟩ : ∃ b0, w3.heap.size = b0 := ⟨_, rfl⟩
      have tt : Turn (fun _ => False) w3 w4 := by rw [← hwn]; exact (Turn.refl _ w3).alloc _
      have H0 := Lib.hid (show w4.cell? ⟨b0, 0 + 0, none⟩ = some (.int .u8 1) by rw [← hwn, ← hb0]; exact cell_of_row _ _ 0 _ 5 (0, 0) (heap_alloc_new w3 _))
      rw [hwn, hb0]
      have HTn := Lib.hid (HT.out.trans tt (fun _ _ => id))
      clear HT
      have HT := HTn
      clear HTn
      refine hK.out _ _ ⟨(HT.out.cell (p := ⟨w.heap.size, 32, none⟩) HBL.out id).trans q32, (HT.out.cell (p := ⟨w.heap.size, 33, none⟩) HBL.out id).trans q33⟩ (fun _ => ?_)
      clear hK K hwn hb0
      have H4n := Lib.hid (fun i hi => (tt.cell (p := ⟨g4, o4 + i, none⟩) (World.block_lt_of_cell? _ _ (H4.out i hi)) id).trans (H4.out i hi))
      clear H4
      have H4 := H4n
      clear H4n
      have H5n := Lib.hid (fun i hi => (tt.cell (p := ⟨g5, o5 + i, none⟩) (World.block_lt_of_cell? _ _ (H5.out i hi)) id).trans (H5.out i hi))
      clear H5
      have H5 := H5n
      clear H5n
      clear tt
      try simp only [Act.put, zq4, zq5, zq6, zq1, zq2, zq3]
      have hkb : ∀ i, i < o.key.length → w4.cell? ⟨w.heap.size, 0 + i, none⟩ = some (.int .u8 (o.key.getD i 0)) := fun i hi => (HT.out.cell (p := ⟨w.heap.size, 0 + i, none⟩) HBL.out id).trans (HKB.out i hi)
      have HKB2 := Lib.hid hkb
      clear hkb
      refine wpAnyH_ready (rs := [9]) (by kernel_rfl) (by simp) ?_
      refine AllReadyH.cons rfl (fun K hK => ?_) AllReadyH.nil
      go_simp
      refine hK.out _ _ ⟨((HT.out.alloc _).cell (p := ⟨w.heap.size, 32, none⟩) HBL.out id).trans q32, ((HT.out.alloc _).cell (p := ⟨w.heap.size, 33, none⟩) HBL.out id).trans q33⟩ (fun _ => ?_)
      clear hK K
      try simp only [Act.put, zq4, zq5, zq6, zq1, zq2, zq3]
      obtain ⟨wg, hwg⟩ : ∃ wg, w4.alloc (.cells #[.slice (some ⟨b0, 0, none⟩) 1 1, .slice (some ⟨w.heap.size, 0, none⟩) 32 32, .slice (some ⟨g4, o4, none⟩) (fourB o.first).length c4, .slice (some ⟨g5, o5, none⟩) (fourB o.size).length c5] 29) = wg := ⟨_, rfl⟩
      have hng : wg.heap[w4.heap.size]? = some (.cells #[.slice (some ⟨b0, 0, none⟩) 1 1, .slice (some ⟨w.heap.size, 0, none⟩) 32 32, .slice (some ⟨g4, o4, none⟩) (fourB o.first).length c4, .slice (some ⟨g5, o5, none⟩) (fourB o.size).length c5] 29 (0, 0)) := by rw [← hwg]; exact heap_alloc_new w4 _
      have tg : Turn (fun _ => False) w4 wg := by rw [← hwg]; exact (Turn.refl _ w4).alloc _
      rw [hwg]
      have HTG := Lib.hid (HT.out.trans tg (fun _ _ => id))
      have hcc := concat_all wg w4.heap.size 4 4 (Nat.le_refl _) (by omega) (fun k => [b0, w.heap.size, g4, g5].getD k 0) (fun k => [0, 0, o4, o5].getD k 0) (fun k => [1, 32, c4, c5].getD k 0) (fun k => [[1], o.key, fourB o.first, fourB o.size].getD k [])
        (fun k hk => by
          rw [cell_of_row wg w4.heap.size k _ 29 (0, 0) hng]
          rcases (by omega : k = 0 ∨ k = 1 ∨ k = 2 ∨ k = 3) with rfl | rfl | rfl | rfl
          · rfl
          · simp [ho.len]
          · rfl
          · rfl)
        (fun k hk i hi => by
          rcases (by omega : k = 0 ∨ k = 1 ∨ k = 2 ∨ k = 3) with rfl | rfl | rfl | rfl
          · have hi0 : i = 0 := by simp at hi; omega
            subst hi0
            exact (tg.cell (p := ⟨b0, 0 + 0, none⟩) (World.block_lt_of_cell? _ _ H0.out) id).trans H0.out
          · have h9 := HKB2.out i hi
            exact (tg.cell (p := ⟨w.heap.size, 0 + i, none⟩) (World.block_lt_of_cell? _ _ h9) id).trans h9
          · have h9 := H4.out i hi
            exact (tg.cell (p := ⟨g4, o4 + i, none⟩) (World.block_lt_of_cell? _ _ h9) id).trans h9
          · have h9 := H5.out i hi
            exact (tg.cell (p := ⟨g5, o5 + i, none⟩) (World.block_lt_of_cell? _ _ h9) id).trans h9)
        (by rw [catN_slot]; simp [slotB]) (by rw [catN_slot]; simp [slotB, ho.len, fourB])
      rw [catN_slot] at hcc
      have HCC := Lib.hid hcc
      clear hcc hng tg hwg
      refine wpAnyH_ready (rs := [10]) (by kernel_rfl) (by simp) ?_
      refine AllReadyH.cons rfl (fun K hK => ?_) AllReadyH.nil
      go_simp
      refine HCC.out.mono ?_
      rintro e wc ⟨vc, rfl, hrc, hoc, tc⟩
      have HTC := Lib.hid (HTG.out.trans tc (fun _ _ => id))
      have HRC := Lib.hid hrc
      clear hrc hoc tc
      obtain ⟨gc, oc, cc, rfl, -⟩ := reads_pos HRC.out (by simp [slotB])
      refine hK.out _ _ ⟨(HTC.out.cell (p := ⟨w.heap.size, 32, none⟩) HBL.out id).trans q32, (HTC.out.cell (p := ⟨w.heap.size, 33, none⟩) HBL.out id).trans q33⟩ (fun _ => ?_)
      clear hK K
      try simp only [Act.put, zq4, zq5, zq6, zq1, zq2, zq3]
      refine wpAnyH_ready (rs := [11]) (by kernel_rfl) (by simp) ?_
      refine AllReadyH.cons rfl (fun K hK => ?_) AllReadyH.nil
      go_simp
      refine (seal_any _ (slotB o) wc (.inl HRC.out) (slotB_ok ho) (HTAB.out.turn HTC.out)).mono ?_
      rintro e ws ⟨rfl, hbs, ts⟩
      have HTS := Lib.hid (HTC.out.trans ts (fun _ _ => id))
      have HBS := Lib.hid hbs
      have HSZ := Lib.hid (show w.heap.size ≤ wc.heap.size by have := HTC.out.size; have := HBZ.out; omega)
      clear hbs ts
      refine hK.out _ _ ⟨(HTS.out.cell (p := ⟨w.heap.size, 32, none⟩) HBL.out id).trans q32, (HTS.out.cell (p := ⟨w.heap.size, 33, none⟩) HBL.out id).trans q33⟩ (fun _ => ?_)
      clear hK K
      try simp only [Act.put, zq4, zq5, zq6, zq1, zq2, zq3]
      refine wpAnyH_take (i := 12) (v := .slice (some ⟨wc.heap.size, 0, none⟩) 64 64) rfl (by kernel_rfl) (by kernel_rfl) (by kernel_rfl) (fun _ _ _ h => h) (Or.inl ⟨by rfl, ?yq9⟩) (by assumption) ?rq9
      case yq9 => (intro wq hSw; (try simp only [zq1, zq2, zq3]); go_simp; (try with_reducible rfl); all_goals (try omega))
      case rq9 =>
      try simp only [Act.put, zq4, zq5, zq6, zq1, zq2, zq3]
      refine wpAnyH_done (by kernel_rfl) ?_ _
      clear hHeld
      go_wp2_with fail
      go_ret
      exact ⟨wc.heap.size, rfl, HBS.out, HSZ.out, HB0.out.turn.trans HTS.out (fun _ _ => id)⟩
end Go.Proofs.YtboofamenpcnhaaGreatDoor
namespace Go.Proofs.YtboofamenpcnhaaGreatDoor
set_option maxRecDepth 100000
open Go.RowKit Go.Shelf
set_option linter.unusedVariables false
set_option linter.unusedSimpArgs false
attribute [local go_sem] Oper.semAt_some
/-- The pages of pieces, as cells. -/
def flC (g o L : Nat) (first : Int) (ks : List Nat) : List Value := (List.range ks.length).flatMap fun j : Nat => [.int .i64 (first + (j : Int)), chV g o L (ks.getD j 0)]
theorem flC_snoc (g o L : Nat) (first : Int) (ks : List Nat) (x : Nat) : flC g o L first (ks ++ [x]) = flC g o L first ks ++ [.int .i64 (first + (ks.length : Int)), chV g o L x] := by
  unfold flC
  rw [List.length_append, List.length_singleton, List.range_succ, List.flatMap_append]
  congr 1
  · rw [List.flatMap_def, List.flatMap_def]
    congr 1
    apply List.map_congr_left
    intro j hj
    have : j < ks.length := by simpa using hj
    simp [List.getD, List.getElem?_append_left this]
  · simp [List.getD]
theorem len2 (f : Nat → List Value) (h : ∀ j, (f j).length = 2) : ∀ n, ((List.range n).flatMap f).length = n * 2
  | 0 => rfl
  | n + 1 => by rw [List.range_succ, List.flatMap_append, List.length_append, len2 f h n]; simp [h]; omega
theorem flC_len (g o L : Nat) (first : Int) (ks : List Nat) : (flC g o L first ks).length = ks.length * 2 := len2 _ (fun _ => rfl) _
theorem flC_at (g o L : Nat) (first : Int) : ∀ k i, i < k → (flC g o L first (List.range k))[i * 2]? = some (.int .i64 (first + (i : Int))) ∧ (flC g o L first (List.range k))[i * 2 + 1]? = some (chV g o L i)
  | 0, i, h => by omega
  | k + 1, i, h => by
    rw [List.range_succ, flC_snoc]
    have hl := flC_len g o L first (List.range k)
    rw [List.length_range] at hl ⊢
    by_cases e : i < k
    · have := flC_at g o L first k i e
      rw [List.getElem?_append_left (by omega), List.getElem?_append_left (by omega)]
      exact this
    · obtain rfl : i = k := by omega
      rw [List.getElem?_append_right (by omega), List.getElem?_append_right (by omega), hl]
      simp
theorem chTo_vals (L : Nat) : ∀ k, 64 * k < L + 64 → (chTo L k).map (·.1) = List.range k
  | 0, _ => rfl
  | k + 1, h => by
    unfold chTo
    rw [dif_pos (by omega), List.map_append, chTo_vals L k (by omega), List.range_succ]
    rfl
/-- The bytes of the k-th piece. -/
def pieceB (ps : List Int) (k : Nat) : List Int := (ps.drop (64 * k)).take 64
theorem piece_reads {w : World} {g o L c : Nat} {ps : List Int} (hl : ps.length = L) (h : ∀ i, i < ps.length → w.cell? ⟨g, o + i, none⟩ = some (.int .u8 (ps.getD i 0))) (k : Nat) (hk : 64 * k < L) : Reads w (chV g o L k) (pieceB ps k) := by
  have hn : (pieceB ps k).length = min 64 (L - 64 * k) := by simp [pieceB, hl]
  refine .inr ⟨g, o + 64 * k, min 64 (L - 64 * k), by rw [hn]; rfl, by omega, fun i hi => ?_⟩
  rw [hn] at hi
  rw [Nat.add_assoc, h (64 * k + i) (by omega)]
  congr 2
  simp [pieceB, List.getD, List.getElem?_take, show i < 64 by omega]
theorem zero88 (w : World) : (zeroValue 88).run Tryz.prog w = .ok (.agg #[.int .i64 0, .slice none 0 0]) w := by kernel_rfl
/-- What the first loop of lay has made: the list in its box. -/
structure LayI (W0 W : World) (Bl : Nat) (lv : Value) (g o L : Nat) (first : Int) (ks : List Nat) : Prop where
  box : W.heap[Bl]? = some (.cells #[lv] 89 (0, 0))
  row : W.ownsRow W0.heap.size 88 2 lv ks.length (flC g o L first ks)
  turn : Turn (fun q => q = Bl) W0 W
theorem LayI.own (W0 : World) (Bl g o L : Nat) (first : Int) : OwnFrom W0.heap.size (fun (pre : List (CX L)) W => ∃ lv, LayI W0 W Bl lv g o L first (pre.map (·.1))) := fun s A B row hs hg hr => by
  obtain ⟨lv, h⟩ := hs
  have hne : some Bl ≠ row := fun e => by
    obtain ⟨o, ho, hc⟩ := (hr Bl e.symm).2
    rw [h.box] at ho
    cases ho
    cases hc
  refine ⟨lv, (hg.block Bl (Array.getElem?_eq_some_iff.1 h.box).1 hne).trans h.box, h.row.kept hg ?_, ⟨hg.os.trans h.turn.os, hg.tape.trans h.turn.tape, hg.output.trans h.turn.output, Nat.le_trans h.turn.size hg.size, fun k hk hq => ?_⟩⟩
  · rcases h.row.2 with ⟨rfl, _⟩ | ⟨g', cap, cur, rfl, _, hgb, _⟩
    · exact .inl rfl
    · refine .inr fun e' => ?_
      obtain ⟨o, ho, hc⟩ := (hr g' (by simpa [Value.ownBlock] using e'.symm)).2
      rw [hgb] at ho
      cases ho
      cases hc
  · refine (hg.block k (by have := h.turn.size; omega) (fun e => ?_)).trans (h.turn.block k hk hq)
    have := (hr k e.symm).1
    omega
end Go.Proofs.YtboofamenpcnhaaGreatDoor
