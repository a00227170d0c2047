/- Own contracts: pages are written where they belong. No statement is proved here. -/
import Derived.Test.YtakmkkgpkbpbkaaRuns
namespace Go.Proofs.Ytakmkkgpkbpbkaa
open Go.RowKit
set_option linter.unusedVariables false
set_option linter.unusedSimpArgs false

def JStep (w : World) (F : Nat → Prop) (J D : Nat) (last : Nat) (d' : DiskM × Int) (e : Ending) (w' : World) : Prop := e = .returned (.int .i64 d'.2) ∧ ∃ F', JH w' F' J D d'.1 last ∧ Step w F w' F'
set_option maxHeartbeats 4000000 in
set_option maxRecDepth 100000 in
theorem lay_any (w : World) (F R : Nat → Prop) (J D : Nat) (d : DiskM) (last : Nat) (v : Value) (l : List (Int × List Int)) (h : JH w F J D d last) (hp : PagesIn w R v l)
    (hR : ∀ k, R k → k < w.heap.size ∧ ¬ F k) (hb : ∀ x ∈ l, BytesOk x.2) (hl : l.length ≤ 24) (hroom : Room 100 d) (hfit : fitsB (d.safe.length - 49) l = true) :
    Calls Try.prog 28 #[.pointer (some ⟨J, 0, none⟩), v] w (JStep w F J D last (DiskM.run (layA l ++ [.fl]) d)) := by
  have hz := zero46
  obtain ⟨a, c, rfl, hcap⟩ := hp.form
  obtain ⟨n, hn⟩ : ∃ n, l.length = n := ⟨_, rfl⟩
  have hfew := h.dh.few
  have HH := Lib.hid h
  have HP := Lib.hid hp
  have HN := Lib.hid hn
  have HFIT := Lib.hid hfit
  have HRO := Lib.hid hroom
  rw [hn] at hcap hl
  clear h hp hfit hroom
  simp only [hn]
  clear hn
  go_enter Try.func28, Try.ntmps28
  go_wp2_with fail
  go_loopw [10] (fun iv wr => ∃ j : Nat, j ≤ n ∧ iv = .int .i64 (j : Int) ∧ ∃ Fj dj, DiskM.run ((layA l).take j) d = (dj, 0) ∧ DH wr Fj D dj ∧ Step w F wr Fj) (fun iv _ => (n - intOf iv).toNat)
  case atStart => exact ⟨0, Nat.zero_le _, rfl, F, d, rfl, HH.out.dh, Step.refl _ _⟩
  case round =>
    obtain ⟨j, hj, rfl, Fj, dj, hrun, hdj, hst⟩ := hrel
    have HRUN := Lib.hid hrun
    have HDJ := Lib.hid hdj
    have hroomj : Room 76 dj := by
      have h1 : Room 76 (DiskM.run ((layA l).take j) d).1 := Room.run (HRO.out.less (by simp [layA]; have := HN.out; omega))
      rw [hrun] at h1; exact h1
    have HRM := Lib.hid hroomj
    have hRj : ∀ k, R k → ¬ Fj k := fun k hk => hst.out (hR k hk).1 (hR k hk).2
    have hJc := (HH.out.jat.turn hst.turn HH.out.nJ)
    have c0 := hJc.c0
    have hJlt := hJc.lt
    have hnJ : ¬ Fj J := hst.out HH.out.jat.lt HH.out.nJ
    have HNJ := Lib.hid hnJ
    have hlenj : dj.safe.length = d.safe.length := by have := DiskM.run_len ((layA l).take j) d; rw [hrun] at this; exact this
    have HLJ := Lib.hid hlenj
    have hJH : JH wr Fj J D dj last := HH.out.step hdj hst hlenj
    have HJH := Lib.hid hJH
    clear hJc hrun hdj hroomj hnJ hlenj hJH
    by_cases hlt : j < n
    · obtain ⟨x, hx⟩ : ∃ x, l[j]? = some x := ⟨_, List.getElem?_eq_getElem (by rw [HN.out]; exact hlt)⟩
      have hpr := HP.out.turn hst.turn (fun k hk => (hR k hk).2)
      rcases hpr with ⟨_, h0⟩ | ⟨g, c', hsl, hc', hg, hglt, hpp⟩
      · subst h0; have := HN.out; simp at this; omega
      obtain ⟨p1, u, p2, p3, p4⟩ := hpp j x hx
      rw [HN.out] at hsl
      injection hsl with e1 e2 e3
      subst e1
      subst e3
      obtain ⟨ua, uc, rfl, _⟩ := src_any p3
      have hbx := hb x (List.mem_of_getElem? hx)
      have hfx : (0 ≤ x.1 ∧ x.1 < ((d.safe.length - 49 : Nat) : Int)) := by
        have := List.all_eq_true.1 HFIT.out x (List.mem_of_getElem? hx)
        simp at this
        omega
      have hax : (layA l)[j]? = some (.wr (49 + x.1) x.2) := by simp [layA, hx]
      have HAX := Lib.hid hax
      have HX := Lib.hid hx
      have HSR := Lib.hid p3
      have HP4 := Lib.hid p4
      clear hpp p3 hx e2 hc' hax p4
      obtain ⟨xa, xs⟩ := x
      dsimp only at p1 p2 hbx hfx
      have HB := Lib.hid hbx
      clear hbx
      have hd1 : decide ((j : Int) < (n : Int)) = true := by simp; omega
      go_wp2_with fail
      have t1 := (Turn.refl (fun _ => False) wr).alloc (.cells #[.int .i64 xa, .slice ua xs.length uc] 46)
      have q0' : (wr.alloc (.cells #[.int .i64 xa, .slice ua xs.length uc] 46)).cell? ⟨J, 0, none⟩ = some (.pointer (some ⟨D, 0, none⟩)) := (t1.cell (p := ⟨J, 0, none⟩) hJlt id).trans c0
      have hnew := heap_alloc_new wr (.cells #[.int .i64 xa, .slice ua xs.length uc] 46)
      have q1' : (wr.alloc (.cells #[.int .i64 xa, .slice ua xs.length uc] 46)).cell? ⟨wr.heap.size, 0, none⟩ = some (.int .i64 xa) := cell_of_row _ _ 0 _ 46 (0, 0) hnew
      have q2' : (wr.alloc (.cells #[.int .i64 xa, .slice ua xs.length uc] 46)).cell? ⟨wr.heap.size, 1, none⟩ = some (.slice ua xs.length uc) := cell_of_row _ _ 1 _ 46 (0, 0) hnew
      have hNB : ¬ Fj wr.heap.size := fun hk => by have := HDJ.out.2 _ hk; omega
      have HNB := Lib.hid hNB
      clear hNB hnew
      have hBlt : wr.heap.size < (wr.alloc (.cells #[.int .i64 xa, .slice ua xs.length uc] 46)).heap.size := by simp
      have HBS := Lib.hid (rfl : wr.heap.size = wr.heap.size)
      obtain ⟨w1, hw1⟩ : ∃ w1, wr.alloc (.cells #[.int .i64 xa, .slice ua xs.length uc] 46) = w1 := ⟨_, rfl⟩
      rw [hw1] at t1 q0' q1' q2' hBlt ⊢
      obtain ⟨B, hBB⟩ : ∃ B, wr.heap.size = B := ⟨_, rfl⟩
      rw [hBB] at q1' q2' hBlt HNB ⊢
      clear hw1 hBB HBS
      have HD1 := Lib.hid (HDJ.out.turn0 t1)
      have HSRC := Lib.hid (HSR.out.turn t1 (fun _ _ => id))
      have hJlt1 : J < w1.heap.size := Nat.lt_of_lt_of_le hJlt t1.size
      have q0 : w1.drew.cell? ⟨J, 0, none⟩ = some (.pointer (some ⟨D, 0, none⟩)) := q0'
      have q1 : w1.drew.cell? ⟨B, 0, none⟩ = some (.int .i64 xa) := q1'
      have q2 : w1.drew.cell? ⟨B, 1, none⟩ = some (.slice ua xs.length uc) := q2'
      have hwr : IntKind.i64.wrap (49 + xa) = 49 + xa := by rw [IntKind.wrap_i64]; omega
      refine wp_region_held_drew (S := fun w' => w'.cell? ⟨J, 0, none⟩ = some (.pointer (some ⟨D, 0, none⟩)) ∧ w'.cell? ⟨B, 0, none⟩ = some (.int .i64 xa) ∧ w'.cell? ⟨B, 1, none⟩ = some (.slice ua xs.length uc)) (by kernel_rfl) ⟨q0, q1, q2⟩ (fun hHeld => ?_)
      refine wpAnyH_take (i := 0) (v := .pointer (some ⟨J, 0, none⟩)) rfl (by kernel_rfl) (by kernel_rfl) (by kernel_rfl) (fun _ _ _ h => h) (Or.inl ⟨by rfl, ?ya0⟩) (by assumption) ?ra0
      case ya0 => (intro wq hSw; (try simp only [List.getElem_toArray, List.getElem_cons_zero, List.getElem_cons_succ]); go_simp; try with_reducible rfl)
      case ra0 =>
      try simp only [Act.put, List.setIfInBounds_toArray, List.set_cons_zero, List.set_cons_succ, List.getElem_toArray, List.getElem_cons_zero, List.getElem_cons_succ]
      refine wpAnyH_take (i := 1) (v := .pointer (some ⟨J, 0, none⟩)) rfl (by kernel_rfl) (by kernel_rfl) (by kernel_rfl) (fun _ _ _ h => h) (Or.inl ⟨by rfl, ?ya1⟩) (by assumption) ?ra1
      case ya1 => (intro wq hSw; (try simp only [List.getElem_toArray, List.getElem_cons_zero, List.getElem_cons_succ]); go_simp; try with_reducible rfl)
      case ra1 =>
      try simp only [Act.put, List.setIfInBounds_toArray, List.set_cons_zero, List.set_cons_succ, List.getElem_toArray, List.getElem_cons_zero, List.getElem_cons_succ]
      refine wpAnyH_take (i := 2) (v := .pointer (some ⟨J, 0, none⟩)) rfl (by kernel_rfl) (by kernel_rfl) (by kernel_rfl) (fun _ _ _ h => h) (Or.inl ⟨by rfl, ?ya2⟩) (by assumption) ?ra2
      case ya2 => (intro wq hSw; (try simp only [List.getElem_toArray, List.getElem_cons_zero, List.getElem_cons_succ]); go_simp; try with_reducible rfl)
      case ra2 =>
      try simp only [Act.put, List.setIfInBounds_toArray, List.set_cons_zero, List.set_cons_succ, List.getElem_toArray, List.getElem_cons_zero, List.getElem_cons_succ]
      refine wpAnyH_take (i := 3) (v := .pointer (some ⟨D, 0, none⟩)) rfl (by kernel_rfl) (by kernel_rfl) (by kernel_rfl) (fun _ _ _ h => h) (Or.inl ⟨by rfl, ?ya3⟩) (by assumption) ?ra3
      case ya3 => (intro wq hSw; (obtain ⟨s0, s1, s2⟩ := hSw); (try simp only [List.getElem_toArray, List.getElem_cons_zero, List.getElem_cons_succ]); go_simp; try with_reducible rfl)
      case ra3 =>
      try simp only [Act.put, List.setIfInBounds_toArray, List.set_cons_zero, List.set_cons_succ, List.getElem_toArray, List.getElem_cons_zero, List.getElem_cons_succ]
      refine wpAnyH_take (i := 4) (v := .pointer (some ⟨B, 0, none⟩)) rfl (by kernel_rfl) (by kernel_rfl) (by kernel_rfl) (fun _ _ _ h => h) (Or.inl ⟨by rfl, ?ya4⟩) (by assumption) ?ra4
      case ya4 => (intro wq hSw; (try simp only [List.getElem_toArray, List.getElem_cons_zero, List.getElem_cons_succ]); go_simp; try with_reducible rfl)
      case ra4 =>
      try simp only [Act.put, List.setIfInBounds_toArray, List.set_cons_zero, List.set_cons_succ, List.getElem_toArray, List.getElem_cons_zero, List.getElem_cons_succ]
      refine wpAnyH_take (i := 5) (v := .int .i64 xa) rfl (by kernel_rfl) (by kernel_rfl) (by kernel_rfl) (fun _ _ _ h => h) (Or.inl ⟨by rfl, ?ya5⟩) (by assumption) ?ra5
      case ya5 => (intro wq hSw; (obtain ⟨s0, s1, s2⟩ := hSw); (try simp only [List.getElem_toArray, List.getElem_cons_zero, List.getElem_cons_succ]); go_simp; try with_reducible rfl)
      case ra5 =>
      try simp only [Act.put, List.setIfInBounds_toArray, List.set_cons_zero, List.set_cons_succ, List.getElem_toArray, List.getElem_cons_zero, List.getElem_cons_succ]
      refine wpAnyH_take (i := 6) (v := .int .i64 (49 + xa)) rfl (by kernel_rfl) (by kernel_rfl) (by kernel_rfl) (fun _ _ _ h => h) (Or.inl ⟨by rfl, ?ya6⟩) (by assumption) ?ra6
      case ya6 => (intro wq hSw; (try simp only [List.getElem_toArray, List.getElem_cons_zero, List.getElem_cons_succ]); go_simp; try with_reducible rfl)
      case ra6 =>
      try simp only [Act.put, List.setIfInBounds_toArray, List.set_cons_zero, List.set_cons_succ, List.getElem_toArray, List.getElem_cons_zero, List.getElem_cons_succ]
      refine wpAnyH_take (i := 7) (v := .pointer (some ⟨B, 1, none⟩)) rfl (by kernel_rfl) (by kernel_rfl) (by kernel_rfl) (fun _ _ _ h => h) (Or.inl ⟨by rfl, ?ya7⟩) (by assumption) ?ra7
      case ya7 => (intro wq hSw; (try simp only [List.getElem_toArray, List.getElem_cons_zero, List.getElem_cons_succ]); go_simp; try with_reducible rfl)
      case ra7 =>
      try simp only [Act.put, List.setIfInBounds_toArray, List.set_cons_zero, List.set_cons_succ, List.getElem_toArray, List.getElem_cons_zero, List.getElem_cons_succ]
      refine wpAnyH_take (i := 8) (v := .slice ua xs.length uc) rfl (by kernel_rfl) (by kernel_rfl) (by kernel_rfl) (fun _ _ _ h => h) (Or.inl ⟨by rfl, ?ya8⟩) (by assumption) ?ra8
      case ya8 => (intro wq hSw; (obtain ⟨s0, s1, s2⟩ := hSw); (try simp only [List.getElem_toArray, List.getElem_cons_zero, List.getElem_cons_succ]); go_simp; try with_reducible rfl)
      case ra8 =>
      try simp only [Act.put, List.setIfInBounds_toArray, List.set_cons_zero, List.set_cons_succ, List.getElem_toArray, List.getElem_cons_zero, List.getElem_cons_succ]
      refine wpAnyH_ready (rs := [9]) (by kernel_rfl) (by simp) ?_
      refine AllReadyH.cons rfl (fun K hK => ?_) AllReadyH.nil
      go_simp
      refine (write_dh w1.drew Fj D dj (49 + xa) (.slice ua xs.length uc) xs (HD1.out.turn0 (Turn.refl _ w1).drew) HRM.out.fits (HSRC.out.turn (Turn.refl (fun _ => False) w1).drew (fun _ _ => id)) HB.out).mono ?_
      rintro e w2 ⟨rfl, F2, hd2, hs2⟩
      have hs2' : Step w1 Fj w2 F2 := ⟨hs2.grown, hs2.turn.of_drew⟩
      have hJ2 := (hs2'.turn.cell (p := ⟨J, 0, none⟩) hJlt1 HNJ.out).trans q0
      have hB20 := (hs2'.turn.cell (p := ⟨B, 0, none⟩) hBlt HNB.out).trans q1
      have hB21 := (hs2'.turn.cell (p := ⟨B, 1, none⟩) hBlt HNB.out).trans q2
      clear hs2
      refine hK.out _ _ ⟨hJ2, hB20, hB21⟩ (fun _ => ?_)
      clear hK K
      try simp only [Act.put, List.setIfInBounds_toArray, List.set_cons_zero, List.set_cons_succ, List.getElem_toArray, List.getElem_cons_zero, List.getElem_cons_succ]
      obtain ⟨rr, hrr⟩ : ∃ rr, (dj.write (49 + xa) xs).2 = rr := ⟨_, rfl⟩
      rw [hrr]
      have HRR := Lib.hid hrr
      clear hrr
      refine wpAnyH_take (i := 10) (v := .int .i64 rr) rfl (by kernel_rfl) (by kernel_rfl) (by kernel_rfl) (fun _ _ _ h => h) (Or.inl ⟨by rfl, ?ya10⟩) (by assumption) ?ra10
      case ya10 => (intro wq hSw; (try simp only [List.getElem_toArray, List.getElem_cons_zero, List.getElem_cons_succ]); go_simp; try with_reducible rfl)
      case ra10 =>
      try simp only [Act.put, List.setIfInBounds_toArray, List.set_cons_zero, List.set_cons_succ, List.getElem_toArray, List.getElem_cons_zero, List.getElem_cons_succ]
      refine wpAnyH_done (by kernel_rfl) ?_ _
      change Exit.then _ _ _ _ w2
      clear hHeld q0 q1 q2 q0' q1' q2' hwr
      have hone : dj.one (.wr (49 + xa) xs) = dj.write (49 + xa) xs := rfl
      by_cases hr0 : rr = 0
      · subst hr0
        go_wp2_with fail
        go_roundw
        case rel =>
          refine ⟨j + 1, by omega, by go_num, F2, (dj.write (49 + xa) xs).1, ?_, hd2, (hst.trans (Step.of0 Fj t1)).trans hs2'⟩
          rw [DiskM.run_next HAX.out HRUN.out, hone, ← HRR.out]
        case measure => simp [intOf]; omega
      · have hr1 : (rr == 0) = false := by rw [beq_eq_false_iff_ne]; exact hr0
        go_wp2_with fail
        go_ret
        have hfin : DiskM.run (layA l ++ [.fl]) d = dj.write (49 + xa) xs := by
          have h1 := DiskM.run_stop HAX.out HRUN.out (by rw [hone, HRR.out]; exact hr0)
          rw [DiskM.run_bad _ (by rw [h1, hone, HRR.out]; exact hr0), h1, hone]
        rw [hfin]
        refine ⟨by rw [HRR.out]; rfl, F2, ?_, (hst.trans (Step.of0 Fj t1)).trans hs2'⟩
        exact (HJH.out.turn0 t1).step hd2 hs2' (DiskM.one_len dj (.wr (49 + xa) xs))
    · obtain rfl : j = n := by omega
      have hall : DiskM.run (layA l) d = (dj, 0) := by
        have := HRUN.out
        rw [List.take_of_length_le (by simp [layA]; have := HN.out; omega)] at this; exact this
      have hfin : DiskM.run (layA l ++ [.fl]) d = dj.flush := by
        rw [DiskM.run_ok _ (by rw [hall]), hall, DiskM.run_one]; rfl
      have HFN := Lib.hid hfin
      clear hfin hall
      go_wp2_with fail
      refine (flush_dh wr Fj D dj HDJ.out HRM.out.fits).mono ?_
      rintro e w2 ⟨rfl, F2, hd2, hs2⟩
      go_wp2_with fail
      go_ret
      rw [HFN.out]
      exact ⟨rfl, F2, HJH.out.step hd2 hs2 (DiskM.one_len dj .fl), hst.trans hs2⟩
end Go.Proofs.Ytakmkkgpkbpbkaa
