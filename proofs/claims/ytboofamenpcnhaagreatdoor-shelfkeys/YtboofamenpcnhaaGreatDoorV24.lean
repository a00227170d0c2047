/- Own texts, packed: Q32. -/
import Derived.Test.YtboofamenpcnhaaGreatDoorV23
import Derived.Test.YtboofamenpcnhaaGreatDoorV00
namespace Go.Proofs.YtboofamenpcnhaaGreatDoor
set_option maxRecDepth 100000
open Go.RowKit
set_option linter.unusedVariables false
set_option linter.unusedSimpArgs false
def finishM (l : List (Int × List Int)) (d : DiskM) : DiskM × Int := if fitsB (d.safe.length - 49) l = true then DiskM.run (layA l ++ [.fl]) d else (d, 1)
set_option maxHeartbeats 1600000 in
set_option maxRecDepth 100000 in
theorem finish_any (w : World) (F R : Nat → Prop) (J D : Nat) (d : DiskM) (last : Nat) (v : Value) (l : List (Int × List Int)) (h : JH w F J D d last) (hp : PagesIn w R v l)
    (hR : ∀ k, R k → k < w.heap.size ∧ ¬ F k) (hb : ∀ x ∈ l, BytesOk x.2) (hl : l.length ≤ 24) (hroom : Room 100 d) :
    Calls Tryz.prog 47 #[.pointer (some ⟨J, 0, none⟩), v] w (JStep w F J D last (finishM l d)) := by
  have HH := Lib.hid h
  have HP := Lib.hid hp
  have HRO := Lib.hid hroom
  obtain ⟨a, c, rfl, _⟩ := hp.form
  clear h hp hroom
  go_enter Tryz.func47, Tryz.ntmps47
  go_wp2_with fail
  refine (fits_any w F R J D d last _ l HH.out HP.out (by omega)).mono ?_
  rintro e w1 ⟨rfl, t1⟩
  by_cases hfit : fitsB (d.safe.length - 49) l = true
  · have HFIT := Lib.hid hfit
    have HFM := Lib.hid (show finishM l d = DiskM.run (layA l ++ [.fl]) d by unfold finishM; rw [if_pos hfit])
    rw [hfit]
    clear hfit
    go_wp2_with fail
    refine (lay_any w1 F R J D d last _ l (HH.out.turn0 t1) (HP.out.turn0 t1) (fun k hk => ⟨Nat.lt_of_lt_of_le (hR k hk).1 t1.size, (hR k hk).2⟩) hb hl HRO.out HFIT.out).mono ?_
    rintro e w2 ⟨rfl, F2, hj2, hs2⟩
    go_wp2_with fail
    go_ret
    rw [HFM.out]
    exact ⟨rfl, F2, hj2, (Step.of0 F t1).trans hs2⟩
  · have HFM := Lib.hid (show finishM l d = (d, 1) by unfold finishM; rw [if_neg hfit])
    rw [Bool.eq_false_iff.2 hfit]
    clear hfit
    go_wp2_with fail
    go_ret
    rw [HFM.out]
    exact ⟨rfl, F, HH.out.turn0 t1, Step.of0 F t1⟩
/-- The greatest number. -/
def lastK (ss : List (List Int)) : Nat → Nat
  | 0 => 0
  | j + 1 => max (lastK ss j) (numK (ss.getD j []) 4)
def openM (d : DiskM) : DiskM × Int :=
  if d.safe.length ≤ 49 then (d, 1) else if d.off = true then (d, 9) else match begunM (secsOf d 49) with
    | none => (d, 0)
    | some l => finishM l d
def OpenPost (w : World) (F : Nat → Prop) (D : Nat) (d : DiskM) (e : Ending) (w' : World) : Prop :=
  ∃ F', DH w' F' D (openM d).1 ∧ Step w F w' F' ∧ if (openM d).2 = 0 then ∃ J, e = .returned (.tuple #[.pointer (some ⟨J, 0, none⟩), .int .i64 0]) ∧ w.heap.size ≤ J ∧ JH w' F' J D (openM d).1 (lastK (secsOf d 49) 49) else e = .returned (.tuple #[.pointer none, .int .i64 (openM d).2])
theorem SecsAt.turnG {w w' : World} {g : Nat} {ss : List (List Int)} {G : Nat → Prop} (h : SecsAt w g ss) (ht : Turn G w w') (hn : ∀ k, k < w.heap.size → ¬ G k) : SecsAt w' g ss := fun i s hi => by
  obtain ⟨B, h1, h2⟩ := h i s hi
  have hg := World.block_lt_of_cell? w _ h1
  refine ⟨B, (ht.cell (p := ⟨g, i, none⟩) hg (hn g hg)).trans h1, fun j v hv => ?_⟩
  have h3 := h2 j v hv
  have hB := World.block_lt_of_cell? w _ h3
  exact (ht.cell (p := ⟨B, 0 + j, none⟩) hB (hn B hB)).trans h3
theorem begunK_ok (ss : List (List Int)) (m : Nat) (h : ∀ s ∈ ss, BytesOk s) : ∀ n l, begunK ss m n = some l → l.length = n ∧ ∀ x ∈ l, BytesOk x.2
  | 0, l, hl => by
    have : l = [] := by simpa [begunK] using hl.symm
    subst this; exact ⟨rfl, fun x hx => by simp at hx⟩
  | n + 1, l, hl => by
    rw [begunK] at hl
    cases hk : begunK ss m n with
    | none => rw [hk] at hl; simp at hl
    | some l0 =>
      rw [hk] at hl
      simp only [Option.bind_some] at hl
      cases hp : pageM ss m n with
      | none => rw [hp] at hl; simp at hl
      | some p =>
        rw [hp] at hl
        simp at hl
        subst hl
        obtain ⟨h1, h2⟩ := begunK_ok ss m h n l0 hk
        refine ⟨by simp [h1], fun x hx => ?_⟩
        rcases List.mem_append.1 hx with hx | hx
        · exact h2 x hx
        · simp at hx
          subst hx
          unfold pageM at hp
          have hg : ∀ j, BytesOk (ss.getD j []) := fun j => by
            by_cases hj : j < ss.length
            · exact h _ (by simp [List.getD, hj])
            · rw [List.getD, List.getElem?_eq_none (by omega)]; intro x hx; simp at hx
          split at hp
          · have hp' := Option.some.inj hp
            rw [← hp']
            intro y hy
            rcases List.mem_append.1 hy with hy | hy
            · exact hg _ y (List.mem_of_mem_drop (List.mem_of_mem_take hy))
            · exact hg _ y (List.mem_of_mem_drop (List.mem_of_mem_take hy))
          · simp at hp
theorem begunM_ok {ss : List (List Int)} (h : ∀ s ∈ ss, BytesOk s) {l : List (Int × List Int)} (hl : begunM ss = some l) : l.length ≤ 24 ∧ ∀ x ∈ l, BytesOk x.2 := by
  unfold begunM at hl
  split at hl
  · simp at hl
  · obtain ⟨h1, h2⟩ := begunK_ok ss _ h _ l hl
    exact ⟨by omega, h2⟩
theorem secsOf_ok {d : DiskM} (h : d.Ok) (hb : 49 < d.safe.length) : ∀ s ∈ secsOf d 49, s.length = 64 ∧ BytesOk s := fun s hs => by
  simp only [secsOf, List.mem_map, List.mem_range] at hs
  obtain ⟨k, hk, rfl⟩ := hs
  exact h.last k (by omega)
theorem zero59 (w : World) : (zeroValue 94).run Tryz.prog w = .ok (.agg #[.pointer none, .int .i64 0]) w := by kernel_rfl
set_option maxHeartbeats 4000000 in
set_option maxRecDepth 100000 in
theorem open_any (w : World) (F : Nat → Prop) (D : Nat) (d : DiskM) (h : DH w F D d) (hroom : Room 100 d) (hbig : 49 < d.safe.length) (hoff : d.off = false) :
    Calls Tryz.prog 18 #[.pointer (some ⟨D, 0, none⟩)] w (OpenPost w F D d) := by
  have HH := Lib.hid h
  have HRO := Lib.hid hroom
  have hz := zero59
  clear h hroom
  have hd1 : decide ((d.safe.length : Int) ≤ 49) = false := by simp; omega
  have hd2 : decide (d.safe.length ≤ 49) = false := by simp; omega
  have hom : openM d = match begunM (secsOf d 49) with | none => (d, 0) | some l => finishM l d := by unfold openM; rw [if_neg (by omega), if_neg (by rw [hoff]; decide)]
  have HOM := Lib.hid hom
  clear hom
  go_enter Tryz.func18, Tryz.ntmps18
  go_wp2_with fail
  refine (sectors_dh w F D d HH.out).mono ?_
  rintro e w1 ⟨rfl, rfl⟩
  go_wp2_with fail
  refine (load_any w1 F D d HH.out HRO.out.fits hbig hoff).mono ?_
  rintro e w2 ⟨g, c, rfl, hc, hsec, hdh, t2⟩
  have HSEC := Lib.hid hsec
  have HDH := Lib.hid hdh
  have h64 := secsOf_ok HH.out.ok hbig
  have hsl : (secsOf d 49).length = 49 := by simp [secsOf]
  obtain ⟨ss, hss⟩ : ∃ ss, secsOf d 49 = ss := ⟨_, rfl⟩
  rw [hss] at HSEC h64 hsl HOM
  have HSS := Lib.hid hss
  have H64 := Lib.hid h64
  have HSL := Lib.hid hsl
  clear hsec hdh h64 hsl hss
  go_wp2_with fail
  have hJ0 : JAt (w2.alloc (.cells #[.pointer (some ⟨D, 0, none⟩), .int .i64 0] 94)) w2.heap.size D 0 := heap_alloc_new w2 _
  have t3 : Turn (fun k => k = w2.heap.size) w2 (w2.alloc (.cells #[.pointer (some ⟨D, 0, none⟩), .int .i64 0] 94)) := (Turn.refl _ w2).alloc _
  obtain ⟨w3, hw3⟩ : ∃ w3, w2.alloc (.cells #[.pointer (some ⟨D, 0, none⟩), .int .i64 0] 94) = w3 := ⟨_, rfl⟩
  rw [hw3] at hJ0 t3 ⊢
  obtain ⟨J, hJ⟩ : ∃ J, w2.heap.size = J := ⟨_, rfl⟩
  rw [hJ] at hJ0 t3 ⊢
  have HJ := Lib.hid hJ
  clear hw3 hJ
  have HJ0 := Lib.hid hJ0
  clear hJ0
  go_loopw [27] (fun iv wr => ∃ j : Nat, j ≤ 49 ∧ iv = .int .i64 (j : Int) ∧ JAt wr J D (lastK ss j) ∧ Turn (fun k => k = J) w2 wr) (fun iv _ => (49 - intOf iv).toNat)
  case atStart => exact ⟨0, Nat.zero_le _, rfl, HJ0.out, t3⟩
  case round =>
    obtain ⟨j, hj, rfl, hjat, tr⟩ := hrel
    have hsecr := HSEC.out.turnG tr (fun k hk e => by have := HJ.out; omega)
    have HSR := Lib.hid hsecr
    have HJA := Lib.hid hjat
    clear hsecr hjat
    by_cases hlt : j < 49
    · obtain ⟨s, hs⟩ : ∃ s, ss[j]? = some s := ⟨_, List.getElem?_eq_getElem (by rw [HSL.out]; exact hlt)⟩
      have hgs : ss.getD j [] = s := by simp [List.getD, hs]
      obtain ⟨B, hcB, hrB⟩ := HSR.out j s hs
      have HL64 := Lib.hid (H64.out s (List.mem_of_getElem? hs))
      have HSd := Lib.hid (rangeAt_turn hrB (Turn.refl (fun _ => False) wr).drew id)
      have HGS := Lib.hid hgs
      obtain ⟨x, hx⟩ : ∃ x, numK s 4 = x := ⟨_, rfl⟩
      obtain ⟨L, hLk⟩ : ∃ L, lastK ss j = L := ⟨_, rfl⟩
      have HX := Lib.hid hx
      have HLK := Lib.hid hLk
      have hjd : JAt wr.drew J D L := by rw [← hLk]; exact HJA.out
      have cj : wr.drew.cell? ⟨J, 1, none⟩ = some (.int .i64 (L : Int)) := hjd.c1
      have fj : wr.drew.frozen? ⟨J, 1, none⟩ = false := hjd.f1
      clear hrB hgs hs hx hLk
      go_wp2_with fail
      refine wp_region_held_drew (S := fun _ => True) (by kernel_rfl) trivial (fun hHeld => ?_)
      refine wpAnyH_take (i := 0) (v := .pointer (some ⟨J, 0, none⟩)) rfl (by kernel_rfl) (by kernel_rfl) (by kernel_rfl) (fun _ _ _ h => h) (Or.inl ⟨by rfl, ?ya0⟩) (by assumption) ?ra0
      case ya0 => (intro wq hSw; (try simp only [zq1, zq2, zq3]); go_simp; try with_reducible rfl)
      case ra0 =>
      try simp only [Act.put, zq4, zq5, zq6, zq1, zq2, zq3]
      refine wpAnyH_take (i := 1) (v := .pointer (some ⟨J, 0, none⟩)) rfl (by kernel_rfl) (by kernel_rfl) (by kernel_rfl) (fun _ _ _ h => h) (Or.inl ⟨by rfl, ?ya1⟩) (by assumption) ?ra1
      case ya1 => (intro wq hSw; (try simp only [zq1, zq2, zq3]); go_simp; try with_reducible rfl)
      case ra1 =>
      try simp only [Act.put, zq4, zq5, zq6, zq1, zq2, zq3]
      refine wpAnyH_take (i := 2) (v := .pointer (some ⟨J, 0, none⟩)) rfl (by kernel_rfl) (by kernel_rfl) (by kernel_rfl) (fun _ _ _ h => h) (Or.inl ⟨by rfl, ?ya2⟩) (by assumption) ?ra2
      case ya2 => (intro wq hSw; (try simp only [zq1, zq2, zq3]); go_simp; try with_reducible rfl)
      case ra2 =>
      try simp only [Act.put, zq4, zq5, zq6, zq1, zq2, zq3]
      refine wpAnyH_take (i := 3) (v := .pointer (some ⟨J, 1, none⟩)) rfl (by kernel_rfl) (by kernel_rfl) (by kernel_rfl) (fun _ _ _ h => h) (Or.inl ⟨by rfl, ?ya3⟩) (by assumption) ?ra3
      case ya3 => (intro wq hSw; (try simp only [zq1, zq2, zq3]); go_simp; try with_reducible rfl)
      case ra3 =>
      try simp only [Act.put, zq4, zq5, zq6, zq1, zq2, zq3]
      refine wpAnyH_take (i := 5) (v := .slice (some ⟨B, 0, none⟩) 64 64) rfl (by kernel_rfl) (by kernel_rfl) (by kernel_rfl) (fun _ _ _ h => h) (Or.inl ⟨by rfl, ?ya5⟩) (by assumption) ?ra5
      case ya5 => (intro wq hSw; (try simp only [zq1, zq2, zq3]); go_simp; try with_reducible rfl)
      case ra5 =>
      try simp only [Act.put, zq4, zq5, zq6, zq1, zq2, zq3]
      refine wpAnyH_ready (rs := [4, 6]) (by kernel_rfl) (by simp) ?_
      refine AllReadyH.cons rfl (fun K hK => ?_) (AllReadyH.cons rfl (fun K hK => ?_) AllReadyH.nil)
      · go_simp
        refine hK.out _ _ trivial (fun _ => ?_)
        clear hK K
        try simp only [Act.put, zq4, zq5, zq6, zq1, zq2, zq3]
        refine wpAnyH_ready (rs := [6]) (by kernel_rfl) (by simp) ?_
        refine AllReadyH.cons rfl (fun K hK => ?_) AllReadyH.nil
        go_simp
        refine (number_any _ s wr.drew (sec_src HSd.out HL64.out.1) HL64.out.2).mono ?_
        rintro e w1 ⟨rfl, hw1⟩
        rw [num_min, HX.out, hw1]
        clear hw1
        refine hK.out _ _ trivial (fun _ => ?_)
        clear hK K
        try simp only [Act.put, zq4, zq5, zq6, zq1, zq2, zq3]
        by_cases hmx : (L : Int) < (x : Int)
        · refine wpAnyH_take (i := 7) (v := .int .i64 (x : Int)) rfl (by kernel_rfl) (by kernel_rfl) (by kernel_rfl) (fun _ _ _ h => h) (Or.inl ⟨by rfl, ?yblt7⟩) (by assumption) ?rblt7
          case yblt7 => (intro wq hSw; (try simp only [zq1, zq2, zq3]); go_simp; try with_reducible rfl)
          case rblt7 =>
          try simp only [Act.put, zq4, zq5, zq6, zq1, zq2, zq3]
          refine wpAnyH_take (i := 8) (v := .pointer (some ⟨J, 0, none⟩)) rfl (by kernel_rfl) (by kernel_rfl) (by kernel_rfl) (fun _ _ _ h => h) (Or.inl ⟨by rfl, ?yblt8⟩) (by assumption) ?rblt8
          case yblt8 => (intro wq hSw; (try simp only [zq1, zq2, zq3]); go_simp; try with_reducible rfl)
          case rblt8 =>
          try simp only [Act.put, zq4, zq5, zq6, zq1, zq2, zq3]
          refine wpAnyH_take (i := 9) (v := .pointer (some ⟨J, 1, none⟩)) rfl (by kernel_rfl) (by kernel_rfl) (by kernel_rfl) (fun _ _ _ h => h) (Or.inl ⟨by rfl, ?yblt9⟩) (by assumption) ?rblt9
          case yblt9 => (intro wq hSw; (try simp only [zq1, zq2, zq3]); go_simp; try with_reducible rfl)
          case rblt9 =>
          try simp only [Act.put, zq4, zq5, zq6, zq1, zq2, zq3]
          refine wpAnyH_ready (rs := [10]) (by kernel_rfl) (by simp) ?_
          refine AllReadyH.cons rfl (fun K hK => ?_) AllReadyH.nil
          go_simp
          have hj2 : JAt (wr.drew.setCell ⟨J, 1, none⟩ (.int .i64 (x : Int))) J D x := JAt.set (w := wr.drew) hjd x
          have t2 : Turn (fun k => k = J) wr (wr.drew.setCell ⟨J, 1, none⟩ (.int .i64 (x : Int))) := (Turn.refl (fun k => k = J) wr).drew.setCell (p := ⟨J, 1, none⟩) (fun _ => rfl) _
          refine hK.out _ _ trivial (fun _ => ?_)
          clear hK K
          try simp only [Act.put, zq4, zq5, zq6, zq1, zq2, zq3]
          refine wpAnyH_done (by kernel_rfl) ?_ _
          change Exit.inBlock _ _ _ _ (wr.drew.setCell ⟨J, 1, none⟩ (.int .i64 (x : Int)))
          obtain ⟨w2, hw2⟩ : ∃ w2, wr.drew.setCell ⟨J, 1, none⟩ (.int .i64 (x : Int)) = w2 := ⟨_, rfl⟩
          rw [hw2] at hj2 t2 ⊢
          clear hw2 hHeld
          have hmax : lastK ss (j + 1) = x := by rw [lastK, HGS.out, HLK.out, HX.out]; omega
          rw [← hmax] at hj2
          have HJ2 := Lib.hid hj2
          clear hj2 hmx hmax
          go_wp2_with fail
          go_roundw
          case rel => exact ⟨j + 1, by omega, by go_num, HJ2.out, tr.trans t2 (fun _ _ => id)⟩
          case measure => simp [intOf]; omega
        · refine wpAnyH_take (i := 7) (v := .int .i64 (L : Int)) rfl (by kernel_rfl) (by kernel_rfl) (by kernel_rfl) (fun _ _ _ h => h) (Or.inl ⟨by rfl, ?ybge7⟩) (by assumption) ?rbge7
          case ybge7 => (intro wq hSw; (try simp only [zq1, zq2, zq3]); go_simp; try with_reducible rfl)
          case rbge7 =>
          try simp only [Act.put, zq4, zq5, zq6, zq1, zq2, zq3]
          refine wpAnyH_take (i := 8) (v := .pointer (some ⟨J, 0, none⟩)) rfl (by kernel_rfl) (by kernel_rfl) (by kernel_rfl) (fun _ _ _ h => h) (Or.inl ⟨by rfl, ?ybge8⟩) (by assumption) ?rbge8
          case ybge8 => (intro wq hSw; (try simp only [zq1, zq2, zq3]); go_simp; try with_reducible rfl)
          case rbge8 =>
          try simp only [Act.put, zq4, zq5, zq6, zq1, zq2, zq3]
          refine wpAnyH_take (i := 9) (v := .pointer (some ⟨J, 1, none⟩)) rfl (by kernel_rfl) (by kernel_rfl) (by kernel_rfl) (fun _ _ _ h => h) (Or.inl ⟨by rfl, ?ybge9⟩) (by assumption) ?rbge9
          case ybge9 => (intro wq hSw; (try simp only [zq1, zq2, zq3]); go_simp; try with_reducible rfl)
          case rbge9 =>
          try simp only [Act.put, zq4, zq5, zq6, zq1, zq2, zq3]
          refine wpAnyH_ready (rs := [10]) (by kernel_rfl) (by simp) ?_
          refine AllReadyH.cons rfl (fun K hK => ?_) AllReadyH.nil
          go_simp
          have hj2 : JAt (wr.drew.setCell ⟨J, 1, none⟩ (.int .i64 (L : Int))) J D L := JAt.set (w := wr.drew) hjd L
          have t2 : Turn (fun k => k = J) wr (wr.drew.setCell ⟨J, 1, none⟩ (.int .i64 (L : Int))) := (Turn.refl (fun k => k = J) wr).drew.setCell (p := ⟨J, 1, none⟩) (fun _ => rfl) _
          refine hK.out _ _ trivial (fun _ => ?_)
          clear hK K
          try simp only [Act.put, zq4, zq5, zq6, zq1, zq2, zq3]
          refine wpAnyH_done (by kernel_rfl) ?_ _
          change Exit.inBlock _ _ _ _ (wr.drew.setCell ⟨J, 1, none⟩ (.int .i64 (L : Int)))
          obtain ⟨w2, hw2⟩ : ∃ w2, wr.drew.setCell ⟨J, 1, none⟩ (.int .i64 (L : Int)) = w2 := ⟨_, rfl⟩
          rw [hw2] at hj2 t2 ⊢
          clear hw2 hHeld
          have hmax : lastK ss (j + 1) = L := by rw [lastK, HGS.out, HLK.out, HX.out]; omega
          rw [← hmax] at hj2
          have HJ2 := Lib.hid hj2
          clear hj2 hmx hmax
          go_wp2_with fail
          go_roundw
          case rel => exact ⟨j + 1, by omega, by go_num, HJ2.out, tr.trans t2 (fun _ _ => id)⟩
          case measure => simp [intOf]; omega
      · go_simp
        refine (number_any _ s wr.drew (sec_src HSd.out HL64.out.1) HL64.out.2).mono ?_
        rintro e w1 ⟨rfl, hw1⟩
        rw [num_min, HX.out, hw1]
        clear hw1
        refine hK.out _ _ trivial (fun _ => ?_)
        clear hK K
        try simp only [Act.put, zq4, zq5, zq6, zq1, zq2, zq3]
        refine wpAnyH_ready (rs := [4]) (by kernel_rfl) (by simp) ?_
        refine AllReadyH.cons rfl (fun K hK => ?_) AllReadyH.nil
        go_simp
        
        refine hK.out _ _ trivial (fun _ => ?_)
        clear hK K
        try simp only [Act.put, zq4, zq5, zq6, zq1, zq2, zq3]
        by_cases hmx : (L : Int) < (x : Int)
        · refine wpAnyH_take (i := 7) (v := .int .i64 (x : Int)) rfl (by kernel_rfl) (by kernel_rfl) (by kernel_rfl) (fun _ _ _ h => h) (Or.inl ⟨by rfl, ?yclt7⟩) (by assumption) ?rclt7
          case yclt7 => (intro wq hSw; (try simp only [zq1, zq2, zq3]); go_simp; try with_reducible rfl)
          case rclt7 =>
          try simp only [Act.put, zq4, zq5, zq6, zq1, zq2, zq3]
          refine wpAnyH_take (i := 8) (v := .pointer (some ⟨J, 0, none⟩)) rfl (by kernel_rfl) (by kernel_rfl) (by kernel_rfl) (fun _ _ _ h => h) (Or.inl ⟨by rfl, ?yclt8⟩) (by assumption) ?rclt8
          case yclt8 => (intro wq hSw; (try simp only [zq1, zq2, zq3]); go_simp; try with_reducible rfl)
          case rclt8 =>
          try simp only [Act.put, zq4, zq5, zq6, zq1, zq2, zq3]
          refine wpAnyH_take (i := 9) (v := .pointer (some ⟨J, 1, none⟩)) rfl (by kernel_rfl) (by kernel_rfl) (by kernel_rfl) (fun _ _ _ h => h) (Or.inl ⟨by rfl, ?yclt9⟩) (by assumption) ?rclt9
          case yclt9 => (intro wq hSw; (try simp only [zq1, zq2, zq3]); go_simp; try with_reducible rfl)
          case rclt9 =>
          try simp only [Act.put, zq4, zq5, zq6, zq1, zq2, zq3]
          refine wpAnyH_ready (rs := [10]) (by kernel_rfl) (by simp) ?_
          refine AllReadyH.cons rfl (fun K hK => ?_) AllReadyH.nil
          go_simp
          have hj2 : JAt (wr.drew.setCell ⟨J, 1, none⟩ (.int .i64 (x : Int))) J D x := JAt.set (w := wr.drew) hjd x
          have t2 : Turn (fun k => k = J) wr (wr.drew.setCell ⟨J, 1, none⟩ (.int .i64 (x : Int))) := (Turn.refl (fun k => k = J) wr).drew.setCell (p := ⟨J, 1, none⟩) (fun _ => rfl) _
          refine hK.out _ _ trivial (fun _ => ?_)
          clear hK K
          try simp only [Act.put, zq4, zq5, zq6, zq1, zq2, zq3]
          refine wpAnyH_done (by kernel_rfl) ?_ _
          change Exit.inBlock _ _ _ _ (wr.drew.setCell ⟨J, 1, none⟩ (.int .i64 (x : Int)))
          obtain ⟨w2, hw2⟩ : ∃ w2, wr.drew.setCell ⟨J, 1, none⟩ (.int .i64 (x : Int)) = w2 := ⟨_, rfl⟩
          rw [hw2] at hj2 t2 ⊢
          clear hw2 hHeld
          have hmax : lastK ss (j + 1) = x := by rw [lastK, HGS.out, HLK.out, HX.out]; omega
          rw [← hmax] at hj2
          have HJ2 := Lib.hid hj2
          clear hj2 hmx hmax
          go_wp2_with fail
          go_roundw
          case rel => exact ⟨j + 1, by omega, by go_num, HJ2.out, tr.trans t2 (fun _ _ => id)⟩
          case measure => simp [intOf]; omega
        · refine wpAnyH_take (i := 7) (v := .int .i64 (L : Int)) rfl (by kernel_rfl) (by kernel_rfl) (by kernel_rfl) (fun _ _ _ h => h) (Or.inl ⟨by rfl, ?ycge7⟩) (by assumption) ?rcge7
          case ycge7 => (intro wq hSw; (try simp only [zq1, zq2, zq3]); go_simp; try with_reducible rfl)
          case rcge7 =>
          try simp only [Act.put, zq4, zq5, zq6, zq1, zq2, zq3]
          refine wpAnyH_take (i := 8) (v := .pointer (some ⟨J, 0, none⟩)) rfl (by kernel_rfl) (by kernel_rfl) (by kernel_rfl) (fun _ _ _ h => h) (Or.inl ⟨by rfl, ?ycge8⟩) (by assumption) ?rcge8
          case ycge8 => (intro wq hSw; (try simp only [zq1, zq2, zq3]); go_simp; try with_reducible rfl)
          case rcge8 =>
          try simp only [Act.put, zq4, zq5, zq6, zq1, zq2, zq3]
          refine wpAnyH_take (i := 9) (v := .pointer (some ⟨J, 1, none⟩)) rfl (by kernel_rfl) (by kernel_rfl) (by kernel_rfl) (fun _ _ _ h => h) (Or.inl ⟨by rfl, ?ycge9⟩) (by assumption) ?rcge9
          case ycge9 => (intro wq hSw; (try simp only [zq1, zq2, zq3]); go_simp; try with_reducible rfl)
          case rcge9 =>
          try simp only [Act.put, zq4, zq5, zq6, zq1, zq2, zq3]
          refine wpAnyH_ready (rs := [10]) (by kernel_rfl) (by simp) ?_
          refine AllReadyH.cons rfl (fun K hK => ?_) AllReadyH.nil
          go_simp
          have hj2 : JAt (wr.drew.setCell ⟨J, 1, none⟩ (.int .i64 (L : Int))) J D L := JAt.set (w := wr.drew) hjd L
          have t2 : Turn (fun k => k = J) wr (wr.drew.setCell ⟨J, 1, none⟩ (.int .i64 (L : Int))) := (Turn.refl (fun k => k = J) wr).drew.setCell (p := ⟨J, 1, none⟩) (fun _ => rfl) _
          refine hK.out _ _ trivial (fun _ => ?_)
          clear hK K
          try simp only [Act.put, zq4, zq5, zq6, zq1, zq2, zq3]
          refine wpAnyH_done (by kernel_rfl) ?_ _
          change Exit.inBlock _ _ _ _ (wr.drew.setCell ⟨J, 1, none⟩ (.int .i64 (L : Int)))
          obtain ⟨w2, hw2⟩ : ∃ w2, wr.drew.setCell ⟨J, 1, none⟩ (.int .i64 (L : Int)) = w2 := ⟨_, rfl⟩
          rw [hw2] at hj2 t2 ⊢
          clear hw2 hHeld
          have hmax : lastK ss (j + 1) = L := by rw [lastK, HGS.out, HLK.out, HX.out]; omega
          rw [← hmax] at hj2
          have HJ2 := Lib.hid hj2
          clear hj2 hmx hmax
          go_wp2_with fail
          go_roundw
          case rel => exact ⟨j + 1, by omega, by go_num, HJ2.out, tr.trans t2 (fun _ _ => id)⟩
          case measure => simp [intOf]; omega
    · obtain rfl : j = 49 := by omega
      have hnF : ¬ F J := fun hk => by have := HDH.out.2 J hk; have := HJ.out; omega
      have hjh : JH wr F J D d (lastK ss 49) := ⟨HDH.out.turn tr (fun k hk e => hnF (e ▸ hk)), HJA.out, hnF, hbig⟩
      have hst : Step w1 F wr F := ⟨fun _ h => .inl h, (t2.mono (fun _ _ h => h.elim)).trans tr (fun q hq e => by subst e; exfalso; have h1 := HJ.out; have h2 := t2.size; omega)⟩
      have hJge : w1.heap.size ≤ J := by have h1 := HJ.out; have h2 := t2.size; omega
      have HJH := Lib.hid hjh
      clear hjh hnF
      go_wp2_with fail
      refine (begun_any wr g c ss HSL.out H64.out HSR.out hc).mono ?_
      rintro e w4 ⟨t4, hb⟩
      cases hbm : begunM ss with
      | none =>
        rw [hbm] at hb
        have hom := HOM.out
        rw [hbm] at hom
        dsimp only at hom hb
        subst hb
        have HOM2 := Lib.hid hom
        clear hom hbm
        go_wp2_with fail
        go_ret2
        unfold OpenPost
        rw [HOM2.out]
        refine ⟨F, (HJH.out.turn0 t4).dh, hst.trans (Step.of0 F t4), ?_⟩
        rw [if_pos rfl, HSS.out]
        exact ⟨J, rfl, hJge, HJH.out.turn0 t4⟩
      | some l =>
        rw [hbm] at hb
        have hom := HOM.out
        rw [hbm] at hom
        dsimp only at hom hb
        obtain ⟨v, rfl, hpg⟩ := hb
        have HOM2 := Lib.hid hom
        obtain ⟨hl24, hbl⟩ := begunM_ok (fun s hs => (H64.out s hs).2) hbm
        have HPG := Lib.hid hpg
        have HBL := Lib.hid hbl
        obtain ⟨va, vc, rfl, _⟩ := hpg.form
        clear hom hbm hpg hbl
        go_wp2_with fail
        refine (finish_any w4 F _ J D d (lastK ss 49) _ l (HJH.out.turn0 t4) HPG.out (fun k hk => ⟨hk.2, fun hF => by have := HJH.out.dh.2 k hF; have := hk.1; omega⟩) HBL.out hl24 HRO.out).mono ?_
        rintro e w5 ⟨rfl, F5, hj5, hs5⟩
        have hstall := (hst.trans (Step.of0 F t4)).trans hs5
        obtain ⟨rr, hrr⟩ : ∃ rr, (finishM l d).2 = rr := ⟨_, rfl⟩
        rw [hrr]
        have HRR := Lib.hid hrr
        clear hrr
        by_cases hr0 : rr = 0
        · subst hr0
          go_wp2_with fail
          go_ret2
          unfold OpenPost
          rw [HOM2.out]
          refine ⟨F5, hj5.dh, hstall, ?_⟩
          rw [if_pos HRR.out, HSS.out]
          exact ⟨J, rfl, hJge, hj5⟩
        · have hr1 : (rr == 0) = false := by rw [beq_eq_false_iff_ne]; exact hr0
          go_wp2_with fail
          go_ret2
          unfold OpenPost
          rw [HOM2.out]
          refine ⟨F5, hj5.dh, hstall, ?_⟩
          rw [if_neg (by rw [HRR.out]; exact hr0), HRR.out]
          rfl
end Go.Proofs.YtboofamenpcnhaaGreatDoor
namespace Go.Proofs.YtboofamenpcnhaaGreatDoor
set_option maxRecDepth 100000
open Go.RowKit
set_option linter.unusedVariables false
set_option linter.unusedSimpArgs false
/-- What a transaction makes of a disk: the acts. -/
def txA (m : Int) (l : List (Int × List Int)) : List DAct := noteAll m l ++ (layA l ++ [.fl])
def jwriteM (d : DiskM) (last : Nat) (l : List (Int × List Int)) : (DiskM × Int) × Nat :=
  if 24 < l.length then ((d, 5), last) else if fitsB (d.safe.length - 49) l = true then (if l.length = 0 then ((d, 0), last) else (DiskM.run (txA ((last + 1 : Nat) : Int) l) d, last + 1)) else ((d, 1), last)
structure StepJ (w : World) (F : Nat → Prop) (J : Nat) (w' : World) (F' : Nat → Prop) : Prop where
  grown : ∀ k, F' k → F k ∨ w.heap.size ≤ k
  turn : Turn (fun k => F k ∨ k = J) w w'
theorem StepJ.of {w w' : World} {F F' : Nat → Prop} (J : Nat) (h : Step w F w' F') : StepJ w F J w' F' := ⟨h.grown, h.turn.mono (fun _ _ h => .inl h)⟩
theorem StepJ.out {w w' : World} {F F' : Nat → Prop} {J : Nat} (a : StepJ w F J w' F') {k : Nat} (hk : k < w.heap.size) (hn : ¬ F k) : ¬ F' k := fun h => by
  rcases a.grown k h with h | h
  · exact hn h
  · omega
def JWPost (w : World) (F : Nat → Prop) (J D : Nat) (r : (DiskM × Int) × Nat) (e : Ending) (w' : World) : Prop := e = .returned (.int .i64 r.1.2) ∧ ∃ F', JH w' F' J D r.1.1 r.2 ∧ StepJ w F J w' F'
set_option maxHeartbeats 1600000 in
set_option maxRecDepth 100000 in
theorem jwrite_any (w : World) (F R : Nat → Prop) (J D : Nat) (d : DiskM) (last : Nat) (v : Value) (l : List (Int × List Int)) (h : JH w F J D d last) (hp : PagesIn w R v l)
    (hR : ∀ k, R k → k < w.heap.size ∧ ¬ F k ∧ k ≠ J) (hb : ∀ x ∈ l, BytesOk x.2) (hl : l.length ≤ 1000000) (hroom : Room 200 d) (hlast : last < 4294967295) :
    Calls Tryz.prog 39 #[.pointer (some ⟨J, 0, none⟩), v] w (JWPost w F J D (jwriteM d last l)) := by
  have HH := Lib.hid h
  have HP := Lib.hid hp
  have HRO := Lib.hid hroom
  have HR := Lib.hid hR
  have HB := Lib.hid hb
  obtain ⟨a, c, rfl, _⟩ := hp.form
  clear h hp hroom hR hb
  obtain ⟨n, hn⟩ : ∃ n, l.length = n := ⟨_, rfl⟩
  have HN := Lib.hid hn
  rw [hn] at hl
  simp only [hn]
  clear hn
  by_cases h24 : 24 < n
  · have hd1 : decide ((24 : Int) < (n : Int)) = true := by simp; omega
    have hd2 : decide (24 < n) = true := by simp; omega
    have HM := Lib.hid (show jwriteM d last l = ((d, 5), last) by unfold jwriteM; rw [if_pos (by rw [HN.out]; exact h24)])
    go_enter Tryz.func39, Tryz.ntmps39
    go_wp2_with fail
    go_ret
    rw [HM.out]
    exact ⟨rfl, F, HH.out, StepJ.of J (Step.refl _ _)⟩
  have hd1 : decide ((24 : Int) < (n : Int)) = false := by simp; omega
  have hd2 : decide (24 < n) = false := by simp; omega
  go_enter Tryz.func39, Tryz.ntmps39
  go_wp2_with fail
  have hpn := HP.out
  rw [HN.out] at hpn
  have HPN := Lib.hid hpn
  clear hpn
  refine (fits_any w F R J D d last _ l HH.out HPN.out (by rw [HN.out]; exact hl)).mono ?_
  rintro e w1 ⟨rfl, t1⟩
  by_cases hfit : fitsB (d.safe.length - 49) l = true
  · have HFIT := Lib.hid hfit
    rw [hfit]
    clear hfit
    by_cases h0 : n = 0
    · subst h0
      have HM := Lib.hid (show jwriteM d last l = ((d, 0), last) by unfold jwriteM; rw [if_neg (by rw [HN.out]; omega), if_pos HFIT.out, if_pos HN.out])
      go_wp2_with fail
      go_ret
      rw [HM.out]
      exact ⟨rfl, F, HH.out.turn0 t1, StepJ.of J (Step.of0 F t1)⟩
    · have hn0 : ((n : Int) == 0) = false := by rw [beq_eq_false_iff_ne]; omega
      have hn1 : (n == 0) = false := by rw [beq_eq_false_iff_ne]; omega
      have HM := Lib.hid (show jwriteM d last l = (DiskM.run (txA ((last + 1 : Nat) : Int) l) d, last + 1) by unfold jwriteM; rw [if_neg (by rw [HN.out]; omega), if_pos HFIT.out, if_neg (by rw [HN.out]; exact h0)])
      go_wp2_with fail
      refine (jnext_any w1 F J D d last (HH.out.turn0 t1) hlast).mono ?_
      rintro e w2 ⟨rfl, hj2, t2⟩
      have HJ2 := Lib.hid hj2
      clear hj2
      have hs1 := t1.size
      have hs2 := t2.size
      have hp2 : PagesIn w2 R (.slice a n c) l := (HPN.out.turn0 t1).turn t2 (fun k hk e => (HR.out k hk).2.2 e)
      have hR2 : ∀ k, R k → k < w2.heap.size ∧ ¬ F k := fun k hk => ⟨by have := (HR.out k hk).1; omega, (HR.out k hk).2.1⟩
      have HP2 := Lib.hid hp2
      have HR2 := Lib.hid hR2
      clear hp2 hR2
      obtain ⟨m, hm⟩ : ∃ m : Nat, last + 1 = m := ⟨_, rfl⟩
      rw [hm] at HJ2 HM ⊢
      have HMM := Lib.hid hm
      clear hm
      go_wp2_with fail
      refine (note_any w2 F R J D d m (m : Int) _ l HJ2.out HP2.out HR2.out HB.out (by rw [HN.out]; omega) (HRO.out.less (by omega)) HFIT.out).mono ?_
      rintro e w3 ⟨rfl, F3, hj3, hs3⟩
      have HJ3 := Lib.hid hj3
      clear hj3
      have hroom3 : Room 100 (DiskM.run (noteAll (m : Int) l) d).1 := Room.run (HRO.out.less (by have := HN.out; simp [noteAll, noteA_len]; omega))
      have hlen3 := DiskM.run_len (noteAll (m : Int) l) d
      obtain ⟨d3, hd3⟩ : ∃ d3, DiskM.run (noteAll (m : Int) l) d = d3 := ⟨_, rfl⟩
      rw [hd3] at HJ3 hroom3 hlen3 ⊢
      have hs23 : StepJ w F J w3 F3 := by
        refine ⟨fun k hk => ?_, ?_⟩
        · rcases hs3.grown k hk with h | h
          · exact .inl h
          · exact .inr (by omega)
        · refine (((t1.mono (fun _ _ h => h.elim)).trans t2 (fun _ _ h => .inr h))).trans hs3.turn (fun _ _ h => .inl h)
      have HD3 := Lib.hid hd3
      have HRM3 := Lib.hid hroom3
      have HL3 := Lib.hid hlen3
      obtain ⟨dd, rr⟩ := d3
      dsimp only at HJ3 HRM3 HL3 ⊢
      clear hd3 hroom3 hlen3
      by_cases hr0 : rr = 0
      · subst hr0
        go_wp2_with fail
        have hp3 : PagesIn w3 R (.slice a n c) l := HP2.out.turn hs3.turn (fun k hk => (HR2.out k hk).2)
        refine (lay_any w3 F3 R J D dd m _ l HJ3.out hp3 (fun k hk => ⟨Nat.lt_of_lt_of_le (HR2.out k hk).1 hs3.turn.size, hs3.out (HR2.out k hk).1 (HR2.out k hk).2⟩) HB.out (by rw [HN.out]; omega) HRM3.out (by rw [HL3.out]; exact HFIT.out)).mono ?_
        rintro e w4 ⟨rfl, F4, hj4, hs4⟩
        have HJ4 := Lib.hid hj4
        clear hj4
        have HM2 := Lib.hid (show DiskM.run (txA (m : Int) l) d = DiskM.run (layA l ++ [.fl]) dd by unfold txA; rw [DiskM.run_ok _ (by rw [HD3.out]), HD3.out])
        go_wp2_with fail
        go_ret
        rw [HM.out, HM2.out]
        refine ⟨rfl, F4, HJ4.out, fun k hk => ?_, hs23.turn.trans hs4.turn (fun k hk h => ?_)⟩
        · have h3 := hs3.turn.size
          rcases hs4.grown k hk with h | h
          · exact hs23.grown k h
          · exact .inr (by omega)
        · rcases hs23.grown k h with h | h
          · exact .inl h
          · omega
      · have hr1 : (rr == 0) = false := by rw [beq_eq_false_iff_ne]; exact hr0
        have HM2 := Lib.hid (show DiskM.run (txA (m : Int) l) d = (dd, rr) by unfold txA; rw [DiskM.run_bad _ (by rw [HD3.out]; exact hr0), HD3.out])
        go_wp2_with fail
        go_ret
        rw [HM.out, HM2.out]
        exact ⟨rfl, F3, HJ3.out, hs23⟩
  · have HM := Lib.hid (show jwriteM d last l = ((d, 1), last) by unfold jwriteM; rw [if_neg (by rw [HN.out]; omega), if_neg hfit])
    rw [Bool.eq_false_iff.2 hfit]
    clear hfit
    go_wp2_with fail
    go_ret
    rw [HM.out]
    exact ⟨rfl, F, HH.out.turn0 t1, StepJ.of J (Step.of0 F t1)⟩
end Go.Proofs.YtboofamenpcnhaaGreatDoor
namespace Go.Proofs.YtboofamenpcnhaaGreatDoor
set_option maxRecDepth 100000
open Go.RowKit
set_option linter.unusedVariables false
set_option linter.unusedSimpArgs false
def DAct.valid (n : Nat) : DAct → Prop
  | .wr i xs => (0 ≤ i ∧ i < (n : Int)) ∧ xs.length ≤ 64
  | .fl => True
abbrev St := List (List Int) × List (Nat × List Int)
def ap (p : St) : DAct → St
  | .wr i xs => (p.1, p.2 ++ [(i.toNat, pad64 xs)])
  | .fl => (keepK p.1 p.2 (fun _ => true) p.2.length, [])
def apAll (l : List DAct) (p : St) : St := l.foldl ap p
def DiskM.st (d : DiskM) : St := (d.safe, d.wet)
theorem one_cases (d : DiskM) (a : DAct) (hoff : d.off = false) (hv : a.valid d.safe.length) :
    ((d.one a).2 = 0 ∧ (d.one a).1.off = false ∧ (d.one a).1.st = ap d.st a ∧ (d.one a).1.armed = d.armed) ∨
    (d.armed = true ∧ (d.one a).2 = 9 ∧ (d.one a).1.off = true ∧ ((d.one a).1.st = ap d.st a ∨ (d.one a).1.st = d.st)) := by
  obtain ⟨safe, wet, acts, armed, left, off⟩ := d
  dsimp only at hoff hv
  subst hoff
  cases a with
  | wr i xs =>
    have hv' : (0 ≤ i ∧ i < (safe.length : Int)) ∧ xs.length ≤ 64 := hv
    simp only [DiskM.one, DiskM.write]
    rw [if_pos hv']
    rw [if_neg (by decide)]
    unfold DiskM.act DiskM.actE
    cases armed with
    | false => exact .inl ⟨rfl, rfl, rfl, rfl⟩
    | true =>
      by_cases hl : left = 0
      · subst hl; exact .inr ⟨rfl, rfl, rfl, .inl rfl⟩
      · left
        simp [hl, DiskM.st, ap]
  | fl =>
    simp only [DiskM.one, DiskM.flush]
    rw [if_neg (by decide)]
    unfold DiskM.act DiskM.actE
    cases armed with
    | false => exact .inl ⟨rfl, rfl, rfl, rfl⟩
    | true =>
      by_cases hl : left = 0
      · subst hl; exact .inr ⟨rfl, rfl, rfl, .inr rfl⟩
      · left
        simp [hl, DiskM.st, ap, DiskM.flushed]
theorem run_cases (l : List DAct) (d : DiskM) (hoff : d.off = false) (hv : ∀ a ∈ l, a.valid d.safe.length) :
    ((DiskM.run l d).2 = 0 ∧ (DiskM.run l d).1.off = false ∧ (DiskM.run l d).1.st = apAll l d.st ∧ (DiskM.run l d).1.armed = d.armed) ∨
    (d.armed = true ∧ (DiskM.run l d).2 = 9 ∧ (DiskM.run l d).1.off = true ∧ ∃ a b, l = a ++ b ∧ (DiskM.run l d).1.st = apAll a d.st) := by
  induction l generalizing d with
  | nil => exact .inl ⟨rfl, hoff, rfl, rfl⟩
  | cons x l ih =>
    rcases one_cases d x hoff (hv x List.mem_cons_self) with ⟨h1, h2, h3, h4⟩ | ⟨h0, h1, h2, h3⟩
    · have e : DiskM.run (x :: l) d = DiskM.run l (d.one x).1 := by simp only [DiskM.run, if_pos h1]
      rw [e]
      rcases ih (d.one x).1 h2 (fun a ha => by rw [DiskM.one_len]; exact hv a (List.mem_cons_of_mem _ ha)) with ⟨g1, g2, g3, g4⟩ | ⟨g0, g1, g2, a, b, g3, g4⟩
      · exact .inl ⟨g1, g2, by rw [g3, h3]; rfl, g4.trans h4⟩
      · exact .inr ⟨by rw [← h4]; exact g0, g1, g2, x :: a, b, by rw [g3]; rfl, by rw [g4, h3]; rfl⟩
    · have e : DiskM.run (x :: l) d = d.one x := by simp only [DiskM.run]; rw [if_neg (by rw [h1]; decide)]
      rw [e]
      rcases h3 with h3 | h3
      · exact .inr ⟨h0, h1, h2, [x], l, rfl, h3⟩
      · exact .inr ⟨h0, h1, h2, [], x :: l, rfl, h3⟩
theorem apAll_app (a b : List DAct) (p : St) : apAll (a ++ b) p = apAll b (apAll a p) := by simp [apAll, List.foldl_append]
theorem lastW_mem {W : List (Nat × List Int)} {k : Nat} {y : List Int} (h : lastW W k = some y) : (k, y) ∈ W := by
  induction W with
  | nil => simp [lastW] at h
  | cons x W ih =>
    simp only [lastW] at h
    cases hr : lastW W k with
    | some t => rw [hr] at h; simp at h; subst h; exact List.mem_cons_of_mem _ (ih hr)
    | none =>
      rw [hr] at h
      simp only [Option.none_or] at h
      split at h
      · rename_i he; simp at h; subst h; subst he; exact List.mem_cons_self
      · simp at h
theorem lastW_none {W : List (Nat × List Int)} {k : Nat} (h : lastW W k = none) : ∀ x ∈ W, x.1 ≠ k := by
  induction W with
  | nil => simp
  | cons x W ih =>
    simp only [lastW] at h
    cases hr : lastW W k with
    | some t => rw [hr] at h; simp at h
    | none =>
      rw [hr] at h
      simp only [Option.none_or] at h
      intro y hy
      rcases List.mem_cons.1 hy with rfl | hy
      · intro he; rw [if_pos he] at h; simp at h
      · exact ih hr y hy
theorem getD_set (s : List (List Int)) (i : Nat) (y : List Int) (k : Nat) : (s.set i y).getD k [] = if i = k ∧ k < s.length then y else s.getD k [] := by
  simp only [List.getD, List.getElem?_set]
  by_cases h : i = k
  · subst h
    by_cases h2 : i < s.length
    · simp [h2]
    · simp [h2]
  · simp [h]
theorem keep_full (s : List (List Int)) (W : List (Nat × List Int)) (k : Nat) (hk : k < s.length) : ∀ j, j ≤ W.length → (keepK s W (fun _ => true) j).getD k [] = (lastW (W.take j) k).getD (s.getD k [])
  | 0, _ => by simp [keepK, lastW]
  | j + 1, hj => by
    obtain ⟨x, hx⟩ : ∃ x, W[j]? = some x := ⟨_, List.getElem?_eq_getElem (by omega)⟩
    have ih := keep_full s W k hk j (by omega)
    have hg : W.getD j (0, []) = x := by simp [List.getD, hx]
    rw [keepK, hg, List.take_add_one, hx]
    simp only [if_true]
    rw [getD_set, keepK_len, ih]
    show _ = (lastW (List.take j W ++ [x]) k).getD _
    rw [lastW_app]
    simp only [lastW, Option.none_or]
    by_cases h : x.1 = k
    · rw [if_pos ⟨h, hk⟩, if_pos h]; rfl
    · rw [if_neg (fun h' => h h'.1), if_neg h]; rfl
theorem keep_all_get (s : List (List Int)) (W : List (Nat × List Int)) (k : Nat) (hk : k < s.length) : (keepK s W (fun _ => true) W.length).getD k [] = (lastW W k).getD (s.getD k []) := by
  have := keep_full s W k hk W.length (Nat.le_refl _)
  rwa [List.take_length] at this
theorem keep_part (s : List (List Int)) (W : List (Nat × List Int)) (f : Nat → Bool) (k : Nat) : ∀ j, j ≤ W.length → (keepK s W f j).getD k [] = s.getD k [] ∨ ∃ x ∈ W, x.1 = k ∧ (keepK s W f j).getD k [] = x.2
  | 0, _ => .inl (by simp [keepK])
  | j + 1, hj => by
    obtain ⟨x, hx⟩ : ∃ x, W[j]? = some x := ⟨_, List.getElem?_eq_getElem (by omega)⟩
    have ih := keep_part s W f k j (by omega)
    have hg : W.getD j (0, []) = x := by simp [List.getD, hx]
    rw [keepK, hg]
    split
    · rw [getD_set]
      split
      · rename_i h; exact .inr ⟨x, List.mem_of_getElem? hx, h.1, rfl⟩
      · exact ih
    · exact ih
/-! What is read of the journal's sectors alone. -/
theorem pageM_congr {a b : List (List Int)} (h : ∀ k, k < 49 → a.getD k [] = b.getD k []) (m j : Nat) (hj : j < 24) : pageM a m j = pageM b m j := by
  unfold pageM
  rw [h (1 + 2 * j) (by omega), h (2 + 2 * j) (by omega)]
theorem begunK_congr {a b : List (List Int)} (m : Nat) : ∀ n, (∀ j, j < n → pageM a m j = pageM b m j) → begunK a m n = begunK b m n
  | 0, _ => rfl
  | n + 1, h => by rw [begunK, begunK, begunK_congr m n (fun j hj => h j (by omega)), h n (by omega)]
theorem begunM_congr {a b : List (List Int)} (h : ∀ k, k < 49 → a.getD k [] = b.getD k []) : begunM a = begunM b := by
  unfold begunM
  rw [h 0 (by omega)]
  split
  · rfl
  · exact begunK_congr _ _ (fun j hj => pageM_congr h _ j (by omega))
theorem begunK_some {ss : List (List Int)} {m : Nat} {f : Nat → Int × List Int} : ∀ n, (∀ j, j < n → pageM ss m j = some (f j)) → begunK ss m n = some ((List.range n).map f)
  | 0, _ => rfl
  | n + 1, h => by rw [begunK, begunK_some n (fun j hj => h j (by omega)), h n (by omega)]; simp [List.range_succ]
/-! Numbers as bytes. -/
theorem numK_four (m : Int) (h : 0 ≤ m ∧ m < 4294967296) (r : List Int) : ((numK (fourB m ++ r) 4 : Nat) : Int) = m := by
  have e : numK (fourB m ++ r) 4 = numK (fourB m) 4 := by simp [numK, fourB]
  rw [e, num_four]; omega
end Go.Proofs.YtboofamenpcnhaaGreatDoor
namespace Go.Proofs.YtboofamenpcnhaaGreatDoor
set_option maxRecDepth 100000
open Go.RowKit
set_option linter.unusedVariables false
set_option linter.unusedSimpArgs false
def DAct.isWr : DAct → Bool
  | .wr _ _ => true
  | .fl => false
def toW : DAct → Nat × List Int
  | .wr i xs => (i.toNat, pad64 xs)
  | .fl => (0, [])
theorem ap_writes (l : List DAct) (h : ∀ a ∈ l, a.isWr = true) (p : St) : apAll l p = (p.1, p.2 ++ l.map toW) := by
  induction l generalizing p with
  | nil => simp [apAll]
  | cons x l ih =>
    show apAll l (ap p x) = _
    rw [ih (fun a ha => h a (List.mem_cons_of_mem _ ha))]
    cases x with
    | wr i xs => simp [ap, toW]
    | fl => have := h .fl List.mem_cons_self; simp [DAct.isWr] at this
def layW (l : List (Int × List Int)) : List (Nat × List Int) := l.map fun x => ((49 + x.1).toNat, pad64 x.2)
theorem layA_toW (l : List (Int × List Int)) : (layA l).map toW = layW l := by simp [layA, layW, toW]
theorem layA_wr (l : List (Int × List Int)) : ∀ a ∈ layA l, a.isWr = true := fun a ha => by
  simp only [layA, List.mem_map] at ha
  obtain ⟨x, _, rfl⟩ := ha; rfl
theorem fits_all {k : Nat} {l : List (Int × List Int)} (h : fitsB k l = true) : ∀ x ∈ l, (0 ≤ x.1 ∧ x.1 < (k : Int)) ∧ x.2.length ≤ 64 := fun x hx => by
  have := List.all_eq_true.1 h x hx
  simp at this
  exact ⟨this.1, this.2⟩
theorem layW_ge {k : Nat} {l : List (Int × List Int)} (h : fitsB k l = true) : ∀ x ∈ layW l, 49 ≤ x.1 := fun x hx => by
  simp only [layW, List.mem_map] at hx
  obtain ⟨y, hy, rfl⟩ := hx
  have := (fits_all h y hy).1.1
  show 49 ≤ (49 + y.1).toNat
  omega
/-- What is told of a disk when it is opened. -/
def content (s : List (List Int)) (k : Nat) : List Int := match begunM s with
  | none => s.getD (49 + k) []
  | some l => (lastW (layW l) (49 + k)).getD (s.getD (49 + k) [])
structure SCalm (s : List (List Int)) (L : Nat) (C : List (List Int)) : Prop where
  len : s.length = 49 + C.length
  cont : ∀ k, k < C.length → content s k = C.getD k []
  nums : ∀ k, k < 49 → numK (s.getD k []) 4 ≤ L
  good : ∀ l, begunM s = some l → fitsB C.length l = true
def Settled (s : List (List Int)) (C : List (List Int)) : Prop := ∀ k, k < C.length → s.getD (49 + k) [] = C.getD k []
theorem lay_part {s s' : List (List Int)} {L : Nat} {C : List (List Int)} {l : List (Int × List Int)} (h : SCalm s L C) (hb : begunM s = some l) (hl : s'.length = s.length)
    (h1 : ∀ k, k < 49 → s'.getD k [] = s.getD k []) (h2 : ∀ k, s'.getD (49 + k) [] = s.getD (49 + k) [] ∨ ∃ x ∈ layW l, x.1 = 49 + k) : SCalm s' L C ∧ begunM s' = some l := by
  have hb' : begunM s' = some l := by rw [begunM_congr h1]; exact hb
  refine ⟨⟨by rw [hl, h.len], fun k hk => ?_, fun k hk => by rw [h1 k hk]; exact h.nums k hk, fun l' hl' => h.good l' (by rw [hb]; rw [hb'] at hl'; exact hl')⟩, hb'⟩
  have hc := h.cont k hk
  unfold content at hc ⊢
  rw [hb] at hc
  rw [hb']
  dsimp only at hc ⊢
  cases hw : lastW (layW l) (49 + k) with
  | some y => rw [hw] at hc; exact hc
  | none =>
    rw [hw] at hc
    simp only [Option.getD_none] at hc ⊢
    rcases h2 k with e | ⟨x, hx, he⟩
    · rw [e]; exact hc
    · exact absurd he (lastW_none hw x hx)
theorem lay_keep {s : List (List Int)} {L : Nat} {C : List (List Int)} {l : List (Int × List Int)} (h : SCalm s L C) (hb : begunM s = some l) (W : List (Nat × List Int)) (hW : ∀ x ∈ W, x ∈ layW l) (f : Nat → Bool) :
    SCalm (keepK s W f W.length) L C ∧ begunM (keepK s W f W.length) = some l := by
  have hg := layW_ge (h.good l hb)
  refine lay_part h hb (keepK_len _ _ _ _) (fun k hk => ?_) (fun k => ?_)
  · rcases keep_part s W f k W.length (Nat.le_refl _) with e | ⟨x, hx, he, _⟩
    · exact e
    · have := hg x (hW x hx); omega
  · rcases keep_part s W f (49 + k) W.length (Nat.le_refl _) with e | ⟨x, hx, he, _⟩
    · exact .inl e
    · exact .inr ⟨x, hW x hx, he⟩
theorem lay_done {s : List (List Int)} {L : Nat} {C : List (List Int)} {l : List (Int × List Int)} (h : SCalm s L C) (hb : begunM s = some l) : Settled (keepK s (layW l) (fun _ => true) (layW l).length) C := fun k hk => by
  rw [keep_all_get s (layW l) (49 + k) (by rw [h.len]; omega)]
  have hc := h.cont k hk
  unfold content at hc
  rw [hb] at hc
  exact hc
theorem settled_none {s : List (List Int)} {L : Nat} {C : List (List Int)} (h : SCalm s L C) (hb : begunM s = none) : Settled s C := fun k hk => by
  have hc := h.cont k hk
  unfold content at hc
  rw [hb] at hc
  exact hc
structure Calm (d : DiskM) (L : Nat) (C : List (List Int)) : Prop where
  off : d.off = false
  wet : d.wet = []
  calm : SCalm d.safe L C
theorem crashed_calm {d : DiskM} {L : Nat} {C : List (List Int)} (ms : List Int) (h : SCalm (keepK d.safe d.wet (maskB ms) d.wet.length) L C) : Calm (d.crashed ms) L C := ⟨rfl, rfl, h⟩
theorem secs_begun {d : DiskM} (hw : d.wet = []) : begunM (secsOf d 49) = begunM d.safe := by
  refine begunM_congr (fun k hk => ?_)
  have : (secsOf d 49).getD k [] = d.last k := by simp [List.getD, secsOf, hk]
  rw [this]
  unfold DiskM.last
  rw [hw]; rfl
theorem secs_get {d : DiskM} (hw : d.wet = []) (k : Nat) (hk : k < 49) : (secsOf d 49).getD k [] = d.safe.getD k [] := by
  have : (secsOf d 49).getD k [] = d.last k := by simp [List.getD, secsOf, hk]
  rw [this]
  unfold DiskM.last
  rw [hw]; rfl
theorem lastK_le (ss : List (List Int)) (L : Nat) : ∀ n, (∀ k, k < n → numK (ss.getD k []) 4 ≤ L) → lastK ss n ≤ L
  | 0, _ => Nat.zero_le _
  | n + 1, h => by
    rw [lastK]
    have h1 := lastK_le ss L n (fun k hk => h k (by omega))
    have h2 := h n (by omega)
    omega
theorem le_lastK (ss : List (List Int)) : ∀ n k, k < n → numK (ss.getD k []) 4 ≤ lastK ss n
  | 0, k, hk => by omega
  | n + 1, k, hk => by
    rw [lastK]
    rcases Nat.lt_or_ge k n with h | h
    · have := le_lastK ss n k h; omega
    · obtain rfl : k = n := by omega
      omega
theorem prefix_cases {a b W : List DAct} (h : W ++ [DAct.fl] = a ++ b) : (∃ c, W = a ++ c) ∨ a = W ++ [.fl] := by
  rcases List.append_eq_append_iff.1 h with ⟨c, h1, h2⟩ | ⟨c, h1, h2⟩
  · cases c with
    | nil => left; exact ⟨[], by simpa using h1.symm⟩
    | cons x c =>
      right
      simp at h2
      obtain ⟨rfl, h3, _⟩ := h2
      rw [h1, h3]
  · exact .inl ⟨c, h1⟩
theorem lay_valid {n : Nat} {l : List (Int × List Int)} (h : fitsB (n - 49) l = true) (h49 : 49 < n) : ∀ a ∈ layA l ++ [.fl], a.valid n := fun a ha => by
  rcases List.mem_append.1 ha with ha | ha
  · simp only [layA, List.mem_map] at ha
    obtain ⟨x, hx, rfl⟩ := ha
    obtain ⟨h1, h2⟩ := fits_all h x hx
    exact ⟨by omega, h2⟩
  · simp at ha; subst ha; trivial
/-- Pages are written: to the end, or cut. -/
theorem lay_run {d : DiskM} {L : Nat} {C : List (List Int)} {l : List (Int × List Int)} (h : Calm d L C) (hC : 0 < C.length) (hb : begunM d.safe = some l) :
    ((DiskM.run (layA l ++ [.fl]) d).2 = 0 ∧ Calm (DiskM.run (layA l ++ [.fl]) d).1 L C ∧ Settled (DiskM.run (layA l ++ [.fl]) d).1.safe C ∧ (∀ k, k < 49 → (DiskM.run (layA l ++ [.fl]) d).1.safe.getD k [] = d.safe.getD k []) ∧ (DiskM.run (layA l ++ [.fl]) d).1.armed = d.armed) ∨
    (d.armed = true ∧ (DiskM.run (layA l ++ [.fl]) d).2 = 9 ∧ (DiskM.run (layA l ++ [.fl]) d).1.off = true ∧ ∀ ms, Calm ((DiskM.run (layA l ++ [.fl]) d).1.crashed ms) L C) := by
  have hfit := h.calm.good l hb
  have hlen : d.safe.length = 49 + C.length := h.calm.len
  have hv := lay_valid (n := d.safe.length) (l := l) (by rw [hlen, show 49 + C.length - 49 = C.length by omega]; exact hfit) (by omega)
  have hst : d.st = (d.safe, []) := by unfold DiskM.st; rw [h.wet]
  have hful : apAll (layA l ++ [.fl]) d.st = (keepK d.safe (layW l) (fun _ => true) (layW l).length, []) := by
    rw [apAll_app, hst, ap_writes _ (layA_wr l), layA_toW]; rfl
  have hk := lay_keep h.calm hb (layW l) (fun _ h => h) (fun _ => true)
  have hj : ∀ k, k < 49 → (keepK d.safe (layW l) (fun _ => true) (layW l).length).getD k [] = d.safe.getD k [] := fun k hk' => by
    rcases keep_part d.safe (layW l) (fun _ => true) k _ (Nat.le_refl _) with e | ⟨x, hx, he, _⟩
    · exact e
    · have := layW_ge hfit x hx; omega
  rcases run_cases _ d h.off hv with ⟨r1, r2, r3, r4⟩ | ⟨r0, r1, r2, a, b, hab, r3⟩
  · left
    rw [hful] at r3
    have e1 : (DiskM.run (layA l ++ [.fl]) d).1.safe = _ := congrArg Prod.fst r3
    have e2 : (DiskM.run (layA l ++ [.fl]) d).1.wet = _ := congrArg Prod.snd r3
    dsimp only at e1 e2
    exact ⟨r1, ⟨r2, e2, by rw [e1]; exact hk.1⟩, by rw [e1]; exact lay_done h.calm hb, by rw [e1]; exact hj, r4⟩
  · right
    refine ⟨r0, r1, r2, fun ms => crashed_calm ms ?_⟩
    rcases prefix_cases hab with ⟨c, hc⟩ | hc
    · have ha : ∀ x ∈ a, x.isWr = true := fun x hx => layA_wr l x (by rw [hc]; exact List.mem_append_left _ hx)
      rw [hst, ap_writes a ha] at r3
      have e1 : (DiskM.run (layA l ++ [.fl]) d).1.safe = d.safe := congrArg Prod.fst r3
      have e2 : (DiskM.run (layA l ++ [.fl]) d).1.wet = a.map toW := by have := congrArg Prod.snd r3; simpa [DiskM.st] using this
      rw [e1, e2]
      refine (lay_keep h.calm hb (a.map toW) (fun x hx => ?_) _).1
      rw [← layA_toW, hc, List.map_append]
      exact List.mem_append_left _ hx
    · rw [hc, hful] at r3
      have e1 : (DiskM.run (layA l ++ [.fl]) d).1.safe = _ := congrArg Prod.fst r3
      have e2 : (DiskM.run (layA l ++ [.fl]) d).1.wet = _ := congrArg Prod.snd r3
      dsimp only at e1 e2
      rw [e1, e2]
      exact hk.1
/-- Opened: to the end, or cut. -/
theorem open_run {d : DiskM} {L : Nat} {C : List (List Int)} (h : Calm d L C) (hC : 0 < C.length) :
    ((openM d).2 = 0 ∧ Calm (openM d).1 (lastK (secsOf d 49) 49) C ∧ Settled (openM d).1.safe C ∧ lastK (secsOf d 49) 49 ≤ L ∧ (openM d).1.armed = d.armed) ∨
    (d.armed = true ∧ (openM d).2 = 9 ∧ (openM d).1.off = true ∧ ∀ ms, Calm ((openM d).1.crashed ms) L C) := by
  have hlen : d.safe.length = 49 + C.length := h.calm.len
  have hle : lastK (secsOf d 49) 49 ≤ L := lastK_le _ _ _ (fun k hk => by rw [secs_get h.wet k hk]; exact h.calm.nums k hk)
  have hge : ∀ k, k < 49 → numK (d.safe.getD k []) 4 ≤ lastK (secsOf d 49) 49 := fun k hk => by rw [← secs_get h.wet k hk]; exact le_lastK _ 49 k hk
  have hbe := secs_begun h.wet
  unfold openM
  rw [if_neg (by omega), if_neg (by rw [h.off]; decide), hbe]
  cases hb : begunM d.safe with
  | none =>
    left
    dsimp only
    exact ⟨rfl, ⟨h.off, h.wet, h.calm.len, h.calm.cont, hge, h.calm.good⟩, settled_none h.calm hb, hle, rfl⟩
  | some l =>
    dsimp only
    have hfm : finishM l d = DiskM.run (layA l ++ [.fl]) d := by
      unfold finishM
      rw [if_pos (by rw [hlen, show 49 + C.length - 49 = C.length by omega]; exact h.calm.good l hb)]
    rw [hfm]
    rcases lay_run h hC hb with ⟨r1, r2, r3, r4, r5⟩ | r
    · left
      exact ⟨r1, ⟨r2.off, r2.wet, r2.calm.len, r2.calm.cont, fun k hk => by rw [r4 k hk]; exact hge k hk, r2.calm.good⟩, r3, hle, r5⟩
    · right; exact r
end Go.Proofs.YtboofamenpcnhaaGreatDoor
namespace Go.Proofs.YtboofamenpcnhaaGreatDoor
set_option maxRecDepth 100000
open Go.RowKit
set_option linter.unusedVariables false
set_option linter.unusedSimpArgs false
def secA (m : Int) (x : Int × List Int) : List Int := pad64 (fourB m ++ fourB x.1 ++ (pad64 x.2).take 32)
def secB (m : Int) (x : Int × List Int) : List Int := pad64 (fourB m ++ fourB x.1 ++ (pad64 x.2).drop 32)
def nsec (m : Int) (l : List (Int × List Int)) (k : Nat) : List Int :=
  if k = 0 then pad64 (fourB m ++ fourB (l.length : Int)) else if k % 2 = 1 then secA m (l.getD (k / 2) (0, [])) else secB m (l.getD (k / 2 - 1) (0, []))
def noteW (m : Int) (l : List (Int × List Int)) : List DAct := noteA m 0 l ++ [.wr 0 (fourB m ++ fourB (l.length : Int))]
theorem noteW_mem {m : Int} {l : List (Int × List Int)} {a : DAct} (h : a ∈ noteW m l) : a.isWr = true ∧ (toW a).1 ≤ 2 * l.length ∧ (toW a).2 = nsec m l (toW a).1 ∧ a.valid 49 ∨ 24 < l.length ∨ ∃ x ∈ l, 64 < x.2.length := by
  by_cases h24 : 24 < l.length
  · exact .inr (.inl h24)
  by_cases h64 : ∃ x ∈ l, 64 < x.2.length
  · exact .inr (.inr h64)
  left
  rcases List.mem_append.1 h with h | h
  · obtain ⟨t, ht⟩ := List.getElem?_of_mem h
    have htl : t < 2 * l.length := by have := (List.getElem?_eq_some_iff.1 ht).1; rwa [noteA_len] at this
    obtain ⟨x, hx⟩ : ∃ x, l[t / 2]? = some x := ⟨_, List.getElem?_eq_getElem (by omega)⟩
    have hx64 : x.2.length ≤ 64 := by
      rcases Nat.lt_or_ge 64 x.2.length with hc | hc
      · exact absurd ⟨x, List.mem_of_getElem? hx, hc⟩ h64
      · exact hc
    have hp := pad64_len x.2 hx64
    obtain ⟨e1, e2⟩ := noteA_at m 0 l (t / 2) x hx
    rw [Nat.zero_add] at e1 e2
    have hg : ∀ i, i = t / 2 → l.getD i (0, []) = x := fun i hi => by subst hi; simp [List.getD, hx]
    rcases Nat.mod_two_eq_zero_or_one t with hm | hm
    · rw [show 2 * (t / 2) = t by omega, ht] at e1
      obtain rfl := Option.some.inj e1
      have hn : (1 + 2 * ((t / 2 : Nat) : Int)).toNat = 1 + 2 * (t / 2) := by omega
      refine ⟨rfl, ?_, ?_, ?_⟩
      · show (1 + 2 * ((t / 2 : Nat) : Int)).toNat ≤ _; omega
      · show secA m x = nsec m l (1 + 2 * ((t / 2 : Nat) : Int)).toNat
        rw [hn]; unfold nsec
        rw [if_neg (by omega), if_pos (by omega), hg _ (by omega)]
      · refine ⟨by omega, ?_⟩
        simp [fourB, hp]
    · rw [show 2 * (t / 2) + 1 = t by omega, ht] at e2
      obtain rfl := Option.some.inj e2
      have hn : (2 + 2 * ((t / 2 : Nat) : Int)).toNat = 2 + 2 * (t / 2) := by omega
      refine ⟨rfl, ?_, ?_, ?_⟩
      · show (2 + 2 * ((t / 2 : Nat) : Int)).toNat ≤ _; omega
      · show secB m x = nsec m l (2 + 2 * ((t / 2 : Nat) : Int)).toNat
        rw [hn]; unfold nsec
        rw [if_neg (by omega), if_neg (by omega), hg _ (by omega)]
      · refine ⟨by omega, ?_⟩
        simp [fourB, hp]
  · simp at h
    subst h
    exact ⟨rfl, Nat.zero_le _, rfl, ⟨by omega, by simp [fourB]⟩⟩
theorem noteW_all (m : Int) (l : List (Int × List Int)) (k : Nat) (hk : k ≤ 2 * l.length) : ∃ y, (k, y) ∈ (noteW m l).map toW := by
  by_cases h0 : k = 0
  · subst h0
    exact ⟨_, List.mem_map.2 ⟨_, List.mem_append_right _ (List.mem_singleton.2 rfl), rfl⟩⟩
  · obtain ⟨x, hx⟩ : ∃ x, l[(k - 1) / 2]? = some x := ⟨_, List.getElem?_eq_getElem (by omega)⟩
    obtain ⟨e1, e2⟩ := noteA_at m 0 l ((k - 1) / 2) x hx
    rw [Nat.zero_add] at e1 e2
    rcases Nat.mod_two_eq_zero_or_one k with hm | hm
    · refine ⟨pad64 (fourB m ++ fourB x.1 ++ (pad64 x.2).drop 32), List.mem_map.2 ⟨_, List.mem_append_left _ (List.mem_of_getElem? e2), ?_⟩⟩
      show ((2 + 2 * (((k - 1) / 2 : Nat) : Int)).toNat, _) = (k, _)
      rw [show (2 + 2 * (((k - 1) / 2 : Nat) : Int)).toNat = k by omega]
    · refine ⟨pad64 (fourB m ++ fourB x.1 ++ (pad64 x.2).take 32), List.mem_map.2 ⟨_, List.mem_append_left _ (List.mem_of_getElem? e1), ?_⟩⟩
      show ((1 + 2 * (((k - 1) / 2 : Nat) : Int)).toNat, _) = (k, _)
      rw [show (1 + 2 * (((k - 1) / 2 : Nat) : Int)).toNat = k by omega]
/-- What is put into a content. -/
def putM (C : List (List Int)) (l : List (Int × List Int)) : List (List Int) := (List.range C.length).map fun k => (lastW (layW l) (49 + k)).getD (C.getD k [])
theorem putM_len (C : List (List Int)) (l : List (Int × List Int)) : (putM C l).length = C.length := by simp [putM]
theorem putM_at (C : List (List Int)) (l : List (Int × List Int)) (k : Nat) (hk : k < C.length) : (putM C l).getD k [] = (lastW (layW l) (49 + k)).getD (C.getD k []) := by
  simp [putM, List.getD, hk]
def padP (l : List (Int × List Int)) : List (Int × List Int) := l.map fun x => (x.1, pad64 x.2)
theorem pad64_twice (xs : List Int) (h : xs.length ≤ 64) : pad64 (pad64 xs) = pad64 xs := by
  have := pad64_len xs h
  rw [show pad64 (pad64 xs) = pad64 xs ++ List.replicate (64 - (pad64 xs).length) 0 from rfl, this]; simp
theorem layW_pad {n : Nat} {l : List (Int × List Int)} (h : fitsB n l = true) : layW (padP l) = layW l := by
  simp only [layW, padP, List.map_map]
  refine List.map_congr_left (fun x hx => ?_)
  simp [pad64_twice x.2 (fits_all h x hx).2]
theorem fits_pad {n : Nat} {l : List (Int × List Int)} (h : fitsB n l = true) : fitsB n (padP l) = true := by
  refine List.all_eq_true.2 (fun y hy => ?_)
  simp only [padP, List.mem_map] at hy
  obtain ⟨x, hx, rfl⟩ := hy
  obtain ⟨h1, h2⟩ := fits_all h x hx
  simp [h1.1, h1.2, pad64_len x.2 h2]
theorem num_pad (m : Int) (hm : 0 ≤ m ∧ m < 4294967296) (r : List Int) : ((numK (pad64 (fourB m ++ r)) 4 : Nat) : Int) = m := by
  rw [show pad64 (fourB m ++ r) = fourB m ++ (r ++ List.replicate (64 - (fourB m ++ r).length) 0) by simp [pad64]]
  exact numK_four m hm _
theorem nsec_num (m : Int) (hm : 0 ≤ m ∧ m < 4294967296) (l : List (Int × List Int)) (k : Nat) : ((numK (nsec m l k) 4 : Nat) : Int) = m := by
  unfold nsec
  split
  · exact num_pad m hm _
  · split
    · unfold secA; rw [List.append_assoc]; exact num_pad m hm _
    · unfold secB; rw [List.append_assoc]; exact num_pad m hm _
theorem sec_mid (m a : Int) (r : List Int) (hr : r.length = 32) : ((pad64 (fourB m ++ fourB a ++ r)).drop 8).take 32 = r := by
  have e : pad64 (fourB m ++ fourB a ++ r) = (fourB m ++ fourB a) ++ (r ++ List.replicate (64 - (fourB m ++ fourB a ++ r).length) 0) := by simp [pad64]
  rw [e, List.drop_append_of_le_length (by simp [fourB]), show (fourB m ++ fourB a).drop 8 = [] from rfl, List.nil_append, List.take_append_of_le_length (by omega), List.take_of_length_le (by omega)]
theorem sec_at (m a : Int) (ha : 0 ≤ a ∧ a < 4294967296) (r : List Int) : ((numK ((pad64 (fourB m ++ fourB a ++ r)).drop 4) 4 : Nat) : Int) = a := by
  have e : pad64 (fourB m ++ fourB a ++ r) = fourB m ++ (fourB a ++ (r ++ List.replicate (64 - (fourB m ++ fourB a ++ r).length) 0)) := by simp [pad64]
  rw [e, List.drop_append_of_le_length (by simp [fourB]), show (fourB m).drop 4 = [] from rfl, List.nil_append]
  exact numK_four a ha _
/-- All of it is there. -/
theorem noted {s s' : List (List Int)} {L n : Nat} {l : List (Int × List Int)} (hl24 : l.length ≤ 24) (hfit : fitsB n l = true) (hn : n ≤ 4096) (hL : L + 1 < 4294967296)
    (h : ∀ k, k ≤ 2 * l.length → s'.getD k [] = nsec ((L + 1 : Nat) : Int) l k) : begunM s' = some (padP l) := by
  have hm : (0 : Int) ≤ ((L + 1 : Nat) : Int) ∧ ((L + 1 : Nat) : Int) < 4294967296 := by omega
  have h0 := h 0 (by omega)
  have e0 : nsec ((L + 1 : Nat) : Int) l 0 = pad64 (fourB ((L + 1 : Nat) : Int) ++ fourB (l.length : Int)) := rfl
  have n0 : numK (s'.getD 0 []) 4 = L + 1 := by have := nsec_num _ hm l 0; rw [h0]; omega
  have n1 : numK ((s'.getD 0 []).drop 4) 4 = l.length := by
    have := sec_at ((L + 1 : Nat) : Int) (l.length : Int) (by omega) []
    rw [List.append_nil] at this
    rw [h0, e0]; omega
  unfold begunM
  rw [n0, n1, if_neg (by omega)]
  have hp : ∀ j, j < l.length → pageM s' (L + 1) j = some ((fun j => ((l.getD j (0, [])).1, pad64 (l.getD j (0, [])).2)) j) := fun j hj => by
    obtain ⟨x, hx⟩ : ∃ x, l[j]? = some x := ⟨_, List.getElem?_eq_getElem hj⟩
    have hgx : l.getD j (0, []) = x := by simp [List.getD, hx]
    obtain ⟨hx1, hx2⟩ := fits_all hfit x (List.mem_of_getElem? hx)
    have ha : s'.getD (1 + 2 * j) [] = secA ((L + 1 : Nat) : Int) x := by
      rw [h _ (by omega)]; unfold nsec
      rw [if_neg (by omega), if_pos (by omega), show (1 + 2 * j) / 2 = j by omega, hgx]
    have hb : s'.getD (2 + 2 * j) [] = secB ((L + 1 : Nat) : Int) x := by
      rw [h _ (by omega)]; unfold nsec
      rw [if_neg (by omega), if_neg (by omega), show (2 + 2 * j) / 2 - 1 = j by omega, hgx]
    have na : numK (s'.getD (1 + 2 * j) []) 4 = L + 1 := by have := nsec_num _ hm l (1 + 2 * j); rw [h _ (by omega)]; omega
    have nb : numK (s'.getD (2 + 2 * j) []) 4 = L + 1 := by have := nsec_num _ hm l (2 + 2 * j); rw [h _ (by omega)]; omega
    have hp64 := pad64_len x.2 hx2
    unfold pageM
    rw [na, nb, if_pos ⟨rfl, rfl⟩, ha, hb]
    unfold secA secB
    rw [sec_at _ _ (by omega), sec_mid _ _ _ (by simp [hp64]), sec_mid _ _ _ (by simp [hp64]), List.take_append_drop]
    dsimp only
    rw [hgx]
  rw [begunK_some l.length hp]
  congr 1
  refine List.ext_getElem? (fun i => ?_)
  by_cases hi : i < l.length
  · simp [padP, hi, List.getD]
  · simp [padP, List.getElem?_eq_none (show l.length ≤ i by omega)]
    omega
theorem noted_calm {s s' : List (List Int)} {L : Nat} {C : List (List Int)} {l : List (Int × List Int)} (h : SCalm s L C) (hset : Settled s C) (hC : C.length ≤ 4047) (hl24 : l.length ≤ 24) (hfit : fitsB C.length l = true) (hL : L + 1 < 4294967296) (hlen : s'.length = s.length)
    (h1 : ∀ k, k ≤ 2 * l.length → s'.getD k [] = nsec ((L + 1 : Nat) : Int) l k) (h2 : ∀ k, 2 * l.length < k → s'.getD k [] = s.getD k []) : SCalm s' (L + 1) (putM C l) ∧ begunM s' = some (padP l) := by
  have hb := noted (s := s) hl24 hfit (by omega) hL h1
  have hm : (0 : Int) ≤ ((L + 1 : Nat) : Int) ∧ ((L + 1 : Nat) : Int) < 4294967296 := by omega
  refine ⟨⟨by rw [hlen, putM_len]; exact h.len, fun k hk => ?_, fun k hk => ?_, fun l' hl' => ?_⟩, hb⟩
  · rw [putM_len] at hk
    unfold content
    rw [hb]
    dsimp only
    rw [layW_pad hfit, putM_at C l k hk, h2 (49 + k) (by omega), hset k hk]
  · by_cases hk2 : k ≤ 2 * l.length
    · have := nsec_num _ hm l k; rw [h1 k hk2]; omega
    · have := h.nums k hk; rw [h2 k (by omega)]; omega
  · rw [hb] at hl'
    obtain rfl := Option.some.inj hl'
    rw [putM_len]; exact fits_pad hfit
/-- Some of it is there. -/
theorem note_part {s s' : List (List Int)} {L : Nat} {C : List (List Int)} {l : List (Int × List Int)} (h : SCalm s L C) (hset : Settled s C) (hC : C.length ≤ 4047) (hl24 : l.length ≤ 24) (hfit : fitsB C.length l = true) (hL : L + 1 < 4294967296) (hlen : s'.length = s.length)
    (h1 : ∀ k, s'.getD k [] = s.getD k [] ∨ (k ≤ 2 * l.length ∧ s'.getD k [] = nsec ((L + 1 : Nat) : Int) l k)) : SCalm s' (L + 1) C ∨ SCalm s' (L + 1) (putM C l) := by
  have hm : (0 : Int) ≤ ((L + 1 : Nat) : Int) ∧ ((L + 1 : Nat) : Int) < 4294967296 := by omega
  have hdat : ∀ k, s'.getD (49 + k) [] = s.getD (49 + k) [] := fun k => by
    rcases h1 (49 + k) with e | ⟨e, _⟩
    · exact e
    · omega
  have hnum : ∀ k, k < 49 → numK (s'.getD k []) 4 ≤ L + 1 := fun k hk => by
    rcases h1 k with e | ⟨_, e⟩
    · have := h.nums k hk; rw [e]; omega
    · have := nsec_num _ hm l k; rw [e]; omega
  have hnone : begunM s' = none → SCalm s' (L + 1) C := fun hb =>
    ⟨by rw [hlen]; exact h.len, fun k hk => by unfold content; rw [hb]; dsimp only; rw [hdat k, hset k hk], hnum, fun l' hl' => by rw [hb] at hl'; simp at hl'⟩
  by_cases h0 : s'.getD 0 [] = s.getD 0 []
  · left
    by_cases hall : ∀ k, k < 49 → s'.getD k [] = s.getD k []
    · have hb := begunM_congr hall
      refine ⟨by rw [hlen]; exact h.len, fun k hk => ?_, hnum, fun l' hl' => h.good l' (by rw [← hb]; exact hl')⟩
      have hc := h.cont k hk
      unfold content at hc ⊢
      rw [hb, hdat k]
      exact hc
    · by_cases hcnt : begunM s' = begunM s
      · refine ⟨by rw [hlen]; exact h.len, fun k hk => ?_, hnum, fun l' hl' => h.good l' (by rw [← hcnt]; exact hl')⟩
        have hc := h.cont k hk
        unfold content at hc ⊢
        rw [hcnt, hdat k]
        exact hc
      · refine hnone ?_
        have hs0 := h.nums 0 (by omega)
        unfold begunM at hcnt ⊢
        rw [h0] at hcnt ⊢
        by_cases hz : numK (s.getD 0 []) 4 = 0 ∨ 24 < numK ((s.getD 0 []).drop 4) 4
        · rw [if_pos hz]
        · rw [if_neg hz] at hcnt ⊢
          rw [if_neg hz] at hcnt
          have : ∃ j, j < numK ((s.getD 0 []).drop 4) 4 ∧ pageM s' (numK (s.getD 0 []) 4) j ≠ pageM s (numK (s.getD 0 []) 4) j := by
            apply Classical.byContradiction
            intro hno
            exact hcnt (begunK_congr _ _ (fun j hj => Classical.byContradiction fun hne => hno ⟨j, hj, hne⟩))
          obtain ⟨j, hj, hne⟩ := this
          refine begunK_none s' _ j _ hj ?_
          unfold pageM at hne ⊢
          rcases h1 (1 + 2 * j) with ea | ⟨_, ea⟩
          · rcases h1 (2 + 2 * j) with eb | ⟨_, eb⟩
            · rw [ea, eb] at hne; exact absurd rfl hne
            · refine if_neg (fun hc => ?_)
              have := nsec_num _ hm l (2 + 2 * j); rw [← eb] at this; omega
          · refine if_neg (fun hc => ?_)
            have := nsec_num _ hm l (1 + 2 * j); rw [← ea] at this; omega
  · have h0' : s'.getD 0 [] = nsec ((L + 1 : Nat) : Int) l 0 := by
      rcases h1 0 with e | ⟨_, e⟩
      · exact absurd e h0
      · exact e
    by_cases hall : ∀ k, k ≤ 2 * l.length → s'.getD k [] = nsec ((L + 1 : Nat) : Int) l k
    · right
      exact (noted_calm h hset hC hl24 hfit hL hlen hall (fun k hk => by
        rcases h1 k with e | ⟨e, _⟩
        · exact e
        · omega)).1
    · left
      refine hnone ?_
      have : ∃ k, k ≤ 2 * l.length ∧ s'.getD k [] ≠ nsec ((L + 1 : Nat) : Int) l k := by
        apply Classical.byContradiction
        intro hno
        exact hall (fun k hk => Classical.byContradiction fun hne => hno ⟨k, hk, hne⟩)
      obtain ⟨k, hk, hne⟩ := this
      have ho : s'.getD k [] = s.getD k [] := by
        rcases h1 k with e | ⟨_, e⟩
        · exact e
        · exact absurd e hne
      have hk0 : k ≠ 0 := fun e => by subst e; exact hne h0'
      have hkn := h.nums k (by omega)
      have n0 : numK (s'.getD 0 []) 4 = L + 1 := by have := nsec_num _ hm l 0; rw [h0']; omega
      have n1 : numK ((s'.getD 0 []).drop 4) 4 = l.length := by
        have := sec_at ((L + 1 : Nat) : Int) (l.length : Int) (by omega) []
        rw [List.append_nil] at this
        rw [h0', show nsec ((L + 1 : Nat) : Int) l 0 = pad64 (fourB ((L + 1 : Nat) : Int) ++ fourB (l.length : Int)) from rfl]; omega
      unfold begunM
      rw [n0, n1, if_neg (by omega)]
      refine begunK_none s' _ ((k - 1) / 2) _ (by omega) ?_
      unfold pageM
      refine if_neg (fun hc => ?_)
      rcases Nat.mod_two_eq_zero_or_one k with hm2 | hm2
      · rw [show 2 + 2 * ((k - 1) / 2) = k by omega, ho] at hc; omega
      · rw [show 1 + 2 * ((k - 1) / 2) = k by omega, ho] at hc; omega
end Go.Proofs.YtboofamenpcnhaaGreatDoor
namespace Go.Proofs.YtboofamenpcnhaaGreatDoor
set_option maxRecDepth 100000
open Go.RowKit
set_option linter.unusedVariables false
set_option linter.unusedSimpArgs false
theorem write_pad (d : DiskM) (i : Int) (xs : List Int) (h : xs.length ≤ 64) : d.write i (pad64 xs) = d.write i xs := by
  unfold DiskM.write
  rw [pad64_twice xs h]
  have h1 := pad64_len xs h
  by_cases hc : (0 ≤ i ∧ i < (d.safe.length : Int))
  · rw [if_pos (show (0 ≤ i ∧ i < (d.safe.length : Int)) ∧ (pad64 xs).length ≤ 64 from ⟨hc, by omega⟩), if_pos (show (0 ≤ i ∧ i < (d.safe.length : Int)) ∧ xs.length ≤ 64 from ⟨hc, h⟩)]
  · rw [if_neg (fun h => hc h.1), if_neg (fun h => hc h.1)]
theorem run_pad (l : List (Int × List Int)) (h : ∀ x ∈ l, x.2.length ≤ 64) (t : List DAct) (d : DiskM) : DiskM.run (layA (padP l) ++ t) d = DiskM.run (layA l ++ t) d := by
  induction l generalizing d with
  | nil => rfl
  | cons x l ih =>
    have hx := h x List.mem_cons_self
    show DiskM.run (.wr (49 + x.1) (pad64 x.2) :: (layA (padP l) ++ t)) d = DiskM.run (.wr (49 + x.1) x.2 :: (layA l ++ t)) d
    have e : d.one (.wr (49 + x.1) (pad64 x.2)) = d.one (.wr (49 + x.1) x.2) := write_pad d _ _ hx
    simp only [DiskM.run]
    rw [e, ih (fun y hy => h y (List.mem_cons_of_mem _ hy))]
theorem write_run {d : DiskM} {L : Nat} {C : List (List Int)} {l : List (Int × List Int)} (h : Calm d L C) (hset : Settled d.safe C) (hC : 0 < C.length) (hC2 : C.length ≤ 4047) (hl24 : l.length ≤ 24) (hfit : fitsB C.length l = true) (hL : L + 1 < 4294967296) :
    ((DiskM.run (txA ((L + 1 : Nat) : Int) l) d).2 = 0 ∧ Calm (DiskM.run (txA ((L + 1 : Nat) : Int) l) d).1 (L + 1) (putM C l) ∧ Settled (DiskM.run (txA ((L + 1 : Nat) : Int) l) d).1.safe (putM C l) ∧ (DiskM.run (txA ((L + 1 : Nat) : Int) l) d).1.armed = d.armed) ∨
    (d.armed = true ∧ (DiskM.run (txA ((L + 1 : Nat) : Int) l) d).2 = 9 ∧ (DiskM.run (txA ((L + 1 : Nat) : Int) l) d).1.off = true ∧ ∀ ms, Calm ((DiskM.run (txA ((L + 1 : Nat) : Int) l) d).1.crashed ms) (L + 1) C ∨ Calm ((DiskM.run (txA ((L + 1 : Nat) : Int) l) d).1.crashed ms) (L + 1) (putM C l)) := by
  have h64 : ∀ x ∈ l, x.2.length ≤ 64 := fun x hx => (fits_all hfit x hx).2
  have hmem : ∀ a ∈ noteW ((L + 1 : Nat) : Int) l, a.isWr = true ∧ (toW a).1 ≤ 2 * l.length ∧ (toW a).2 = nsec ((L + 1 : Nat) : Int) l (toW a).1 ∧ a.valid 49 := fun a ha => by
    rcases noteW_mem ha with h | h | ⟨x, hx, hc⟩
    · exact h
    · omega
    · have := h64 x hx; omega
  have hna : noteAll ((L + 1 : Nat) : Int) l = noteW ((L + 1 : Nat) : Int) l ++ [.fl] := by simp [noteAll, noteW]
  have hlen : d.safe.length = 49 + C.length := h.calm.len
  have hv : ∀ a ∈ noteAll ((L + 1 : Nat) : Int) l, a.valid d.safe.length := fun a ha => by
    rw [hna] at ha
    rcases List.mem_append.1 ha with ha | ha
    · obtain ⟨h1, _, _, h2⟩ := hmem a ha
      cases a with
      | wr i xs => exact ⟨⟨h2.1.1, by have := h2.1.2; omega⟩, h2.2⟩
      | fl => trivial
    · simp at ha; subst ha; trivial
  have hst : d.st = (d.safe, []) := by unfold DiskM.st; rw [h.wet]
  obtain ⟨NW, hNW⟩ : ∃ NW, (noteW ((L + 1 : Nat) : Int) l).map toW = NW := ⟨_, rfl⟩
  have hNm : ∀ x ∈ NW, x.1 ≤ 2 * l.length ∧ x.2 = nsec ((L + 1 : Nat) : Int) l x.1 := fun x hx => by
    rw [← hNW] at hx
    obtain ⟨a, ha, rfl⟩ := List.mem_map.1 hx
    exact ⟨(hmem a ha).2.1, (hmem a ha).2.2.1⟩
  have hful : apAll (noteAll ((L + 1 : Nat) : Int) l) d.st = (keepK d.safe NW (fun _ => true) NW.length, []) := by
    rw [hna, apAll_app, hst, ap_writes _ (fun a ha => (hmem a ha).1), hNW]; rfl
  have hnote : SCalm (keepK d.safe NW (fun _ => true) NW.length) (L + 1) (putM C l) ∧ begunM (keepK d.safe NW (fun _ => true) NW.length) = some (padP l) := by
    refine noted_calm h.calm hset hC2 hl24 hfit hL (keepK_len _ _ _ _) (fun k hk => ?_) (fun k hk => ?_)
    · rw [keep_all_get d.safe NW k (by omega)]
      obtain ⟨y, hy⟩ := noteW_all ((L + 1 : Nat) : Int) l k hk
      rw [hNW] at hy
      cases hw : lastW NW k with
      | none => exact absurd rfl (lastW_none hw _ hy)
      | some z => exact (hNm _ (lastW_mem hw)).2
    · rcases keep_part d.safe NW (fun _ => true) k _ (Nat.le_refl _) with e | ⟨x, hx, he, _⟩
      · exact e
      · have := (hNm x hx).1; omega
  have hC' : 0 < (putM C l).length := by rw [putM_len]; exact hC
  rcases run_cases _ d h.off hv with ⟨r1, r2, r3, r4⟩ | ⟨r0, r1, r2, a, b, hab, r3⟩
  · rw [hful] at r3
    have e1 : (DiskM.run (noteAll ((L + 1 : Nat) : Int) l) d).1.safe = _ := congrArg Prod.fst r3
    have e2 : (DiskM.run (noteAll ((L + 1 : Nat) : Int) l) d).1.wet = _ := congrArg Prod.snd r3
    dsimp only at e1 e2
    have htx : DiskM.run (txA ((L + 1 : Nat) : Int) l) d = DiskM.run (layA (padP l) ++ [.fl]) (DiskM.run (noteAll ((L + 1 : Nat) : Int) l) d).1 := by
      unfold txA; rw [DiskM.run_ok _ r1, run_pad l h64]
    rw [htx]
    have hc1 : Calm (DiskM.run (noteAll ((L + 1 : Nat) : Int) l) d).1 (L + 1) (putM C l) := ⟨r2, e2, by rw [e1]; exact hnote.1⟩
    rcases lay_run hc1 hC' (by rw [e1]; exact hnote.2) with ⟨g1, g2, g3, _, g5⟩ | ⟨g0, g1, g2, g3⟩
    · exact .inl ⟨g1, g2, g3, g5.trans r4⟩
    · exact .inr ⟨by rw [← r4]; exact g0, g1, g2, fun ms => .inr (g3 ms)⟩
  · have htx : DiskM.run (txA ((L + 1 : Nat) : Int) l) d = DiskM.run (noteAll ((L + 1 : Nat) : Int) l) d := by
      unfold txA; rw [DiskM.run_bad _ (by rw [r1]; decide)]
    rw [htx]
    refine .inr ⟨r0, r1, r2, fun ms => ?_⟩
    rw [hna] at hab
    rcases prefix_cases hab with ⟨c, hc⟩ | hc
    · have ha : ∀ x ∈ a, x.isWr = true := fun x hx => (hmem x (by rw [hc]; exact List.mem_append_left _ hx)).1
      rw [hst, ap_writes a ha] at r3
      have e1 : (DiskM.run (noteAll ((L + 1 : Nat) : Int) l) d).1.safe = d.safe := congrArg Prod.fst r3
      have e2 : (DiskM.run (noteAll ((L + 1 : Nat) : Int) l) d).1.wet = a.map toW := by have := congrArg Prod.snd r3; simpa [DiskM.st] using this
      have hsub : ∀ x ∈ a.map toW, x ∈ NW := fun x hx => by
        rw [← hNW, hc, List.map_append]; exact List.mem_append_left _ hx
      have := note_part (s' := keepK d.safe (a.map toW) (maskB ms) (a.map toW).length) h.calm hset hC2 hl24 hfit hL (keepK_len _ _ _ _) (fun k => by
        rcases keep_part d.safe (a.map toW) (maskB ms) k _ (Nat.le_refl _) with e | ⟨x, hx, he, hv⟩
        · exact .inl e
        · obtain ⟨q1, q2⟩ := hNm x (hsub x hx)
          exact .inr ⟨by omega, by rw [hv, q2, he]⟩)
      rcases this with g | g
      · exact .inl (crashed_calm ms (by rw [e1, e2]; exact g))
      · exact .inr (crashed_calm ms (by rw [e1, e2]; exact g))
    · rw [hc, ← hna, hful] at r3
      have e1 : (DiskM.run (noteAll ((L + 1 : Nat) : Int) l) d).1.safe = _ := congrArg Prod.fst r3
      have e2 : (DiskM.run (noteAll ((L + 1 : Nat) : Int) l) d).1.wet = _ := congrArg Prod.snd r3
      dsimp only at e1 e2
      exact .inr (crashed_calm ms (by rw [e1, e2]; exact hnote.1))
/-- A new disk. -/
theorem new_calm (n : Nat) (hn : 49 < n) : Calm (newM n) 0 (List.replicate (n - 49) noughts) ∧ Settled (newM n).safe (List.replicate (n - 49) noughts) := by
  have hg : ∀ k, k < n → (newM n).safe.getD k [] = noughts := fun k hk => by simp [newM, List.getD, hk]
  have hb : begunM (newM n).safe = none := by
    unfold begunM
    rw [hg 0 (by omega)]
    rfl
  have hs : Settled (newM n).safe (List.replicate (n - 49) noughts) := fun k hk => by
    simp at hk
    rw [hg (49 + k) (by omega)]
    simp [List.getD, hk]
  refine ⟨⟨rfl, rfl, ⟨?_, fun k hk => ?_, fun k hk => ?_, fun l hl => by rw [hb] at hl; simp at hl⟩⟩, hs⟩
  · simp [newM]; omega
  · unfold content
    rw [hb]
    exact hs k hk
  · rw [hg k (by omega)]
    exact Nat.le_of_eq (by rfl)
end Go.Proofs.YtboofamenpcnhaaGreatDoor
