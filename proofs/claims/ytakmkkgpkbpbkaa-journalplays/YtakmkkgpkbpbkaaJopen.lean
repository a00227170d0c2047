/- Own contracts: a journal is opened; it is written to. No statement is proved here. -/
import Derived.Test.YtakmkkgpkbpbkaaBegun
namespace Go.Proofs.Ytakmkkgpkbpbkaa
open Go.RowKit
set_option linter.unusedVariables false
set_option linter.unusedSimpArgs false

def finishM (l : List (Int × List Int)) (d : DiskM) : DiskM × Int := if fitsB (d.safe.length - 49) l = true then DiskM.run (layA l ++ [.fl]) d else (d, 1)
set_option maxHeartbeats 1600000 in
set_option maxRecDepth 100000 in
theorem finish_any (w : World) (F R : Nat → Prop) (J D : Nat) (d : DiskM) (last : Nat) (v : Value) (l : List (Int × List Int)) (h : JH w F J D d last) (hp : PagesIn w R v l)
    (hR : ∀ k, R k → k < w.heap.size ∧ ¬ F k) (hb : ∀ x ∈ l, BytesOk x.2) (hl : l.length ≤ 24) (hroom : Room 100 d) :
    Calls Try.prog 24 #[.pointer (some ⟨J, 0, none⟩), v] w (JStep w F J D last (finishM l d)) := by
  have HH := Lib.hid h
  have HP := Lib.hid hp
  have HRO := Lib.hid hroom
  obtain ⟨a, c, rfl, _⟩ := hp.form
  clear h hp hroom
  go_enter Try.func24, Try.ntmps24
  go_wp2_with fail
  refine (fits_any w F R J D d last _ l HH.out HP.out (by omega)).mono ?_
  rintro e w1 ⟨rfl, t1⟩
  by_cases hfit : fitsB (d.safe.length - 49) l = true
  · have HFIT := Lib.hid hfit
    have HFM := Lib.hid (show finishM l d = DiskM.run (layA l ++ [.fl]) d by unfold finishM; rw [if_pos hfit])
    rw [hfit]
    clear hfit
    go_wp2_with fail
    refine (lay_any w1 F R J D d last _ l (HH.out.turn0 t1) (HP.out.turn0 t1) (fun k hk => ⟨Nat.lt_of_lt_of_le (hR k hk).1 t1.size, (hR k hk).2⟩) hb hl HRO.out HFIT.out).mono ?_
    rintro e w2 ⟨rfl, F2, hj2, hs2⟩
    go_wp2_with fail
    go_ret
    rw [HFM.out]
    exact ⟨rfl, F2, hj2, (Step.of0 F t1).trans hs2⟩
  · have HFM := Lib.hid (show finishM l d = (d, 1) by unfold finishM; rw [if_neg hfit])
    rw [Bool.eq_false_iff.2 hfit]
    clear hfit
    go_wp2_with fail
    go_ret
    rw [HFM.out]
    exact ⟨rfl, F, HH.out.turn0 t1, Step.of0 F t1⟩

/-- The greatest number. -/
def lastK (ss : List (List Int)) : Nat → Nat
  | 0 => 0
  | j + 1 => max (lastK ss j) (numK (ss.getD j []) 4)
def openM (d : DiskM) : DiskM × Int :=
  if d.safe.length ≤ 49 then (d, 1) else if d.off = true then (d, 9) else match begunM (secsOf d 49) with
    | none => (d, 0)
    | some l => finishM l d
def OpenPost (w : World) (F : Nat → Prop) (D : Nat) (d : DiskM) (e : Ending) (w' : World) : Prop :=
  ∃ F', DH w' F' D (openM d).1 ∧ Step w F w' F' ∧ if (openM d).2 = 0 then ∃ J, e = .returned (.tuple #[.pointer (some ⟨J, 0, none⟩), .int .i64 0]) ∧ w.heap.size ≤ J ∧ JH w' F' J D (openM d).1 (lastK (secsOf d 49) 49) else e = .returned (.tuple #[.pointer none, .int .i64 (openM d).2])
theorem SecsAt.turnG {w w' : World} {g : Nat} {ss : List (List Int)} {G : Nat → Prop} (h : SecsAt w g ss) (ht : Turn G w w') (hn : ∀ k, k < w.heap.size → ¬ G k) : SecsAt w' g ss := fun i s hi => by
  obtain ⟨B, h1, h2⟩ := h i s hi
  have hg := World.block_lt_of_cell? w _ h1
  refine ⟨B, (ht.cell (p := ⟨g, i, none⟩) hg (hn g hg)).trans h1, fun j v hv => ?_⟩
  have h3 := h2 j v hv
  have hB := World.block_lt_of_cell? w _ h3
  exact (ht.cell (p := ⟨B, 0 + j, none⟩) hB (hn B hB)).trans h3
theorem begunK_ok (ss : List (List Int)) (m : Nat) (h : ∀ s ∈ ss, BytesOk s) : ∀ n l, begunK ss m n = some l → l.length = n ∧ ∀ x ∈ l, BytesOk x.2
  | 0, l, hl => by
    have : l = [] := by simpa [begunK] using hl.symm
    subst this; exact ⟨rfl, fun x hx => by simp at hx⟩
  | n + 1, l, hl => by
    rw [begunK] at hl
    cases hk : begunK ss m n with
    | none => rw [hk] at hl; simp at hl
    | some l0 =>
      rw [hk] at hl
      simp only [Option.bind_some] at hl
      cases hp : pageM ss m n with
      | none => rw [hp] at hl; simp at hl
      | some p =>
        rw [hp] at hl
        simp at hl
        subst hl
        obtain ⟨h1, h2⟩ := begunK_ok ss m h n l0 hk
        refine ⟨by simp [h1], fun x hx => ?_⟩
        rcases List.mem_append.1 hx with hx | hx
        · exact h2 x hx
        · simp at hx
          subst hx
          unfold pageM at hp
          have hg : ∀ j, BytesOk (ss.getD j []) := fun j => by
            by_cases hj : j < ss.length
            · exact h _ (by simp [List.getD, hj])
            · rw [List.getD, List.getElem?_eq_none (by omega)]; intro x hx; simp at hx
          split at hp
          · have hp' := Option.some.inj hp
            rw [← hp']
            intro y hy
            rcases List.mem_append.1 hy with hy | hy
            · exact hg _ y (List.mem_of_mem_drop (List.mem_of_mem_take hy))
            · exact hg _ y (List.mem_of_mem_drop (List.mem_of_mem_take hy))
          · simp at hp
theorem begunM_ok {ss : List (List Int)} (h : ∀ s ∈ ss, BytesOk s) {l : List (Int × List Int)} (hl : begunM ss = some l) : l.length ≤ 24 ∧ ∀ x ∈ l, BytesOk x.2 := by
  unfold begunM at hl
  split at hl
  · simp at hl
  · obtain ⟨h1, h2⟩ := begunK_ok ss _ h _ l hl
    exact ⟨by omega, h2⟩
theorem secsOf_ok {d : DiskM} (h : d.Ok) (hb : 49 < d.safe.length) : ∀ s ∈ secsOf d 49, s.length = 64 ∧ BytesOk s := fun s hs => by
  simp only [secsOf, List.mem_map, List.mem_range] at hs
  obtain ⟨k, hk, rfl⟩ := hs
  exact h.last k (by omega)
theorem zero59 (w : World) : (zeroValue 59).run Try.prog w = .ok (.agg #[.pointer none, .int .i64 0]) w := by kernel_rfl

set_option maxHeartbeats 1600000 in
set_option maxRecDepth 100000 in
theorem open_bad (w : World) (F : Nat → Prop) (D : Nat) (d : DiskM) (h : DH w F D d) (hbig : d.safe.length ≤ 49 ∨ d.off = true) :
    Calls Try.prog 10 #[.pointer (some ⟨D, 0, none⟩)] w (OpenPost w F D d) := by
  have HH := Lib.hid h
  clear h
  by_cases h49 : d.safe.length ≤ 49
  · have hd1 : decide ((d.safe.length : Int) ≤ 49) = true := by simp; omega
    have hd2 : decide (d.safe.length ≤ 49) = true := by simp; omega
    go_enter Try.func10, Try.ntmps10
    go_wp2_with fail
    refine (sectors_dh w F D d HH.out).mono ?_
    rintro e w1 ⟨rfl, rfl⟩
    go_wp2_with fail
    go_ret2
    have hm : openM d = (d, 1) := by unfold openM; rw [if_pos h49]
    unfold OpenPost
    rw [hm]
    exact ⟨F, HH.out, Step.refl _ _, by rw [if_neg (by show ¬ ((1 : Int) = 0); decide)]; rfl⟩
  · have hoff : d.off = true := by
      rcases hbig with h | h
      · omega
      · exact h
    have hd1 : decide ((d.safe.length : Int) ≤ 49) = false := by simp; omega
    have hd2 : decide (d.safe.length ≤ 49) = false := by simp; omega
    go_enter Try.func10, Try.ntmps10
    go_wp2_with fail
    refine (sectors_dh w F D d HH.out).mono ?_
    rintro e w1 ⟨rfl, rfl⟩
    go_wp2_with fail
    refine (load_off w1 F D d HH.out (by omega) hoff).mono ?_
    rintro e w2 ⟨rfl, rfl⟩
    go_wp2_with fail
    go_ret2
    have hm : openM d = (d, 9) := by unfold openM; rw [if_neg h49, if_pos hoff]
    unfold OpenPost
    rw [hm]
    exact ⟨F, HH.out, Step.refl _ _, by rw [if_neg (by show ¬ ((9 : Int) = 0); decide)]; rfl⟩

set_option maxHeartbeats 4000000 in
set_option maxRecDepth 100000 in
theorem open_any (w : World) (F : Nat → Prop) (D : Nat) (d : DiskM) (h : DH w F D d) (hroom : Room 100 d) (hbig : 49 < d.safe.length) (hoff : d.off = false) :
    Calls Try.prog 10 #[.pointer (some ⟨D, 0, none⟩)] w (OpenPost w F D d) := by
  have HH := Lib.hid h
  have HRO := Lib.hid hroom
  have hz := zero59
  clear h hroom
  have hd1 : decide ((d.safe.length : Int) ≤ 49) = false := by simp; omega
  have hd2 : decide (d.safe.length ≤ 49) = false := by simp; omega
  have hom : openM d = match begunM (secsOf d 49) with | none => (d, 0) | some l => finishM l d := by unfold openM; rw [if_neg (by omega), if_neg (by rw [hoff]; decide)]
  have HOM := Lib.hid hom
  clear hom
  go_enter Try.func10, Try.ntmps10
  go_wp2_with fail
  refine (sectors_dh w F D d HH.out).mono ?_
  rintro e w1 ⟨rfl, rfl⟩
  go_wp2_with fail
  refine (load_any w1 F D d HH.out HRO.out.fits hbig hoff).mono ?_
  rintro e w2 ⟨g, c, rfl, hc, hsec, hdh, t2⟩
  have HSEC := Lib.hid hsec
  have HDH := Lib.hid hdh
  have h64 := secsOf_ok HH.out.ok hbig
  have hsl : (secsOf d 49).length = 49 := by simp [secsOf]
  obtain ⟨ss, hss⟩ : ∃ ss, secsOf d 49 = ss := ⟨_, rfl⟩
  rw [hss] at HSEC h64 hsl HOM
  have HSS := Lib.hid hss
  have H64 := Lib.hid h64
  have HSL := Lib.hid hsl
  clear hsec hdh h64 hsl hss
  go_wp2_with fail
  have hJ0 : JAt (w2.alloc (.cells #[.pointer (some ⟨D, 0, none⟩), .int .i64 0] 59)) w2.heap.size D 0 := heap_alloc_new w2 _
  have t3 : Turn (fun k => k = w2.heap.size) w2 (w2.alloc (.cells #[.pointer (some ⟨D, 0, none⟩), .int .i64 0] 59)) := (Turn.refl _ w2).alloc _
  obtain ⟨w3, hw3⟩ : ∃ w3, w2.alloc (.cells #[.pointer (some ⟨D, 0, none⟩), .int .i64 0] 59) = w3 := ⟨_, rfl⟩
  rw [hw3] at hJ0 t3 ⊢
  obtain ⟨J, hJ⟩ : ∃ J, w2.heap.size = J := ⟨_, rfl⟩
  rw [hJ] at hJ0 t3 ⊢
  have HJ := Lib.hid hJ
  clear hw3 hJ
  have HJ0 := Lib.hid hJ0
  clear hJ0
  go_loopw [27] (fun iv wr => ∃ j : Nat, j ≤ 49 ∧ iv = .int .i64 (j : Int) ∧ JAt wr J D (lastK ss j) ∧ Turn (fun k => k = J) w2 wr) (fun iv _ => (49 - intOf iv).toNat)
  case atStart => exact ⟨0, Nat.zero_le _, rfl, HJ0.out, t3⟩
  case round =>
    obtain ⟨j, hj, rfl, hjat, tr⟩ := hrel
    have hsecr := HSEC.out.turnG tr (fun k hk e => by have := HJ.out; omega)
    have HSR := Lib.hid hsecr
    have HJA := Lib.hid hjat
    clear hsecr hjat
    by_cases hlt : j < 49
    · obtain ⟨s, hs⟩ : ∃ s, ss[j]? = some s := ⟨_, List.getElem?_eq_getElem (by rw [HSL.out]; exact hlt)⟩
      have hgs : ss.getD j [] = s := by simp [List.getD, hs]
      obtain ⟨B, hcB, hrB⟩ := HSR.out j s hs
      have HL64 := Lib.hid (H64.out s (List.mem_of_getElem? hs))
      have HSd := Lib.hid (rangeAt_turn hrB (Turn.refl (fun _ => False) wr).drew id)
      have HGS := Lib.hid hgs
      obtain ⟨x, hx⟩ : ∃ x, numK s 4 = x := ⟨_, rfl⟩
      obtain ⟨L, hLk⟩ : ∃ L, lastK ss j = L := ⟨_, rfl⟩
      have HX := Lib.hid hx
      have HLK := Lib.hid hLk
      have hjd : JAt wr.drew J D L := by rw [← hLk]; exact HJA.out
      have cj : wr.drew.cell? ⟨J, 1, none⟩ = some (.int .i64 (L : Int)) := hjd.c1
      have fj : wr.drew.frozen? ⟨J, 1, none⟩ = false := hjd.f1
      clear hrB hgs hs hx hLk
      go_wp2_with fail
      refine wp_region_held_drew (S := fun _ => True) (by kernel_rfl) trivial (fun hHeld => ?_)
      refine wpAnyH_take (i := 0) (v := .pointer (some ⟨J, 0, none⟩)) rfl (by kernel_rfl) (by kernel_rfl) (by kernel_rfl) (fun _ _ _ h => h) (Or.inl ⟨by rfl, ?ya0⟩) (by assumption) ?ra0
      case ya0 => (intro wq hSw; (try simp only [List.getElem_toArray, List.getElem_cons_zero, List.getElem_cons_succ]); go_simp; try with_reducible rfl)
      case ra0 =>
      try simp only [Act.put, List.setIfInBounds_toArray, List.set_cons_zero, List.set_cons_succ, List.getElem_toArray, List.getElem_cons_zero, List.getElem_cons_succ]
      refine wpAnyH_take (i := 1) (v := .pointer (some ⟨J, 0, none⟩)) rfl (by kernel_rfl) (by kernel_rfl) (by kernel_rfl) (fun _ _ _ h => h) (Or.inl ⟨by rfl, ?ya1⟩) (by assumption) ?ra1
      case ya1 => (intro wq hSw; (try simp only [List.getElem_toArray, List.getElem_cons_zero, List.getElem_cons_succ]); go_simp; try with_reducible rfl)
      case ra1 =>
      try simp only [Act.put, List.setIfInBounds_toArray, List.set_cons_zero, List.set_cons_succ, List.getElem_toArray, List.getElem_cons_zero, List.getElem_cons_succ]
      refine wpAnyH_take (i := 2) (v := .pointer (some ⟨J, 0, none⟩)) rfl (by kernel_rfl) (by kernel_rfl) (by kernel_rfl) (fun _ _ _ h => h) (Or.inl ⟨by rfl, ?ya2⟩) (by assumption) ?ra2
      case ya2 => (intro wq hSw; (try simp only [List.getElem_toArray, List.getElem_cons_zero, List.getElem_cons_succ]); go_simp; try with_reducible rfl)
      case ra2 =>
      try simp only [Act.put, List.setIfInBounds_toArray, List.set_cons_zero, List.set_cons_succ, List.getElem_toArray, List.getElem_cons_zero, List.getElem_cons_succ]
      refine wpAnyH_take (i := 3) (v := .pointer (some ⟨J, 1, none⟩)) rfl (by kernel_rfl) (by kernel_rfl) (by kernel_rfl) (fun _ _ _ h => h) (Or.inl ⟨by rfl, ?ya3⟩) (by assumption) ?ra3
      case ya3 => (intro wq hSw; (try simp only [List.getElem_toArray, List.getElem_cons_zero, List.getElem_cons_succ]); go_simp; try with_reducible rfl)
      case ra3 =>
      try simp only [Act.put, List.setIfInBounds_toArray, List.set_cons_zero, List.set_cons_succ, List.getElem_toArray, List.getElem_cons_zero, List.getElem_cons_succ]
      refine wpAnyH_take (i := 5) (v := .slice (some ⟨B, 0, none⟩) 64 64) rfl (by kernel_rfl) (by kernel_rfl) (by kernel_rfl) (fun _ _ _ h => h) (Or.inl ⟨by rfl, ?ya5⟩) (by assumption) ?ra5
      case ya5 => (intro wq hSw; (try simp only [List.getElem_toArray, List.getElem_cons_zero, List.getElem_cons_succ]); go_simp; try with_reducible rfl)
      case ra5 =>
      try simp only [Act.put, List.setIfInBounds_toArray, List.set_cons_zero, List.set_cons_succ, List.getElem_toArray, List.getElem_cons_zero, List.getElem_cons_succ]
      refine wpAnyH_ready (rs := [4, 6]) (by kernel_rfl) (by simp) ?_
      refine AllReadyH.cons rfl (fun K hK => ?_) (AllReadyH.cons rfl (fun K hK => ?_) AllReadyH.nil)
      · go_simp
        refine hK.out _ _ trivial (fun _ => ?_)
        clear hK K
        try simp only [Act.put, List.setIfInBounds_toArray, List.set_cons_zero, List.set_cons_succ, List.getElem_toArray, List.getElem_cons_zero, List.getElem_cons_succ]
        refine wpAnyH_ready (rs := [6]) (by kernel_rfl) (by simp) ?_
        refine AllReadyH.cons rfl (fun K hK => ?_) AllReadyH.nil
        go_simp
        refine (number_any _ s wr.drew (sec_src HSd.out HL64.out.1) HL64.out.2).mono ?_
        rintro e w1 ⟨rfl, hw1⟩
        rw [num_min, HX.out, hw1]
        clear hw1
        refine hK.out _ _ trivial (fun _ => ?_)
        clear hK K
        try simp only [Act.put, List.setIfInBounds_toArray, List.set_cons_zero, List.set_cons_succ, List.getElem_toArray, List.getElem_cons_zero, List.getElem_cons_succ]
        by_cases hmx : (L : Int) < (x : Int)
        · refine wpAnyH_take (i := 7) (v := .int .i64 (x : Int)) rfl (by kernel_rfl) (by kernel_rfl) (by kernel_rfl) (fun _ _ _ h => h) (Or.inl ⟨by rfl, ?yblt7⟩) (by assumption) ?rblt7
          case yblt7 => (intro wq hSw; (try simp only [List.getElem_toArray, List.getElem_cons_zero, List.getElem_cons_succ]); go_simp; try with_reducible rfl)
          case rblt7 =>
          try simp only [Act.put, List.setIfInBounds_toArray, List.set_cons_zero, List.set_cons_succ, List.getElem_toArray, List.getElem_cons_zero, List.getElem_cons_succ]
          refine wpAnyH_take (i := 8) (v := .pointer (some ⟨J, 0, none⟩)) rfl (by kernel_rfl) (by kernel_rfl) (by kernel_rfl) (fun _ _ _ h => h) (Or.inl ⟨by rfl, ?yblt8⟩) (by assumption) ?rblt8
          case yblt8 => (intro wq hSw; (try simp only [List.getElem_toArray, List.getElem_cons_zero, List.getElem_cons_succ]); go_simp; try with_reducible rfl)
          case rblt8 =>
          try simp only [Act.put, List.setIfInBounds_toArray, List.set_cons_zero, List.set_cons_succ, List.getElem_toArray, List.getElem_cons_zero, List.getElem_cons_succ]
          refine wpAnyH_take (i := 9) (v := .pointer (some ⟨J, 1, none⟩)) rfl (by kernel_rfl) (by kernel_rfl) (by kernel_rfl) (fun _ _ _ h => h) (Or.inl ⟨by rfl, ?yblt9⟩) (by assumption) ?rblt9
          case yblt9 => (intro wq hSw; (try simp only [List.getElem_toArray, List.getElem_cons_zero, List.getElem_cons_succ]); go_simp; try with_reducible rfl)
          case rblt9 =>
          try simp only [Act.put, List.setIfInBounds_toArray, List.set_cons_zero, List.set_cons_succ, List.getElem_toArray, List.getElem_cons_zero, List.getElem_cons_succ]
          refine wpAnyH_ready (rs := [10]) (by kernel_rfl) (by simp) ?_
          refine AllReadyH.cons rfl (fun K hK => ?_) AllReadyH.nil
          go_simp
          have hj2 : JAt (wr.drew.setCell ⟨J, 1, none⟩ (.int .i64 (x : Int))) J D x := JAt.set (w := wr.drew) hjd x
          have t2 : Turn (fun k => k = J) wr (wr.drew.setCell ⟨J, 1, none⟩ (.int .i64 (x : Int))) := (Turn.refl (fun k => k = J) wr).drew.setCell (p := ⟨J, 1, none⟩) (fun _ => rfl) _
          refine hK.out _ _ trivial (fun _ => ?_)
          clear hK K
          try simp only [Act.put, List.setIfInBounds_toArray, List.set_cons_zero, List.set_cons_succ, List.getElem_toArray, List.getElem_cons_zero, List.getElem_cons_succ]
          refine wpAnyH_done (by kernel_rfl) ?_ _
          change Exit.inBlock _ _ _ _ (wr.drew.setCell ⟨J, 1, none⟩ (.int .i64 (x : Int)))
          obtain ⟨w2, hw2⟩ : ∃ w2, wr.drew.setCell ⟨J, 1, none⟩ (.int .i64 (x : Int)) = w2 := ⟨_, rfl⟩
          rw [hw2] at hj2 t2 ⊢
          clear hw2 hHeld
          have hmax : lastK ss (j + 1) = x := by rw [lastK, HGS.out, HLK.out, HX.out]; omega
          rw [← hmax] at hj2
          have HJ2 := Lib.hid hj2
          clear hj2 hmx hmax
          go_wp2_with fail
          go_roundw
          case rel => exact ⟨j + 1, by omega, by go_num, HJ2.out, tr.trans t2 (fun _ _ => id)⟩
          case measure => simp [intOf]; omega
        · refine wpAnyH_take (i := 7) (v := .int .i64 (L : Int)) rfl (by kernel_rfl) (by kernel_rfl) (by kernel_rfl) (fun _ _ _ h => h) (Or.inl ⟨by rfl, ?ybge7⟩) (by assumption) ?rbge7
          case ybge7 => (intro wq hSw; (try simp only [List.getElem_toArray, List.getElem_cons_zero, List.getElem_cons_succ]); go_simp; try with_reducible rfl)
          case rbge7 =>
          try simp only [Act.put, List.setIfInBounds_toArray, List.set_cons_zero, List.set_cons_succ, List.getElem_toArray, List.getElem_cons_zero, List.getElem_cons_succ]
          refine wpAnyH_take (i := 8) (v := .pointer (some ⟨J, 0, none⟩)) rfl (by kernel_rfl) (by kernel_rfl) (by kernel_rfl) (fun _ _ _ h => h) (Or.inl ⟨by rfl, ?ybge8⟩) (by assumption) ?rbge8
          case ybge8 => (intro wq hSw; (try simp only [List.getElem_toArray, List.getElem_cons_zero, List.getElem_cons_succ]); go_simp; try with_reducible rfl)
          case rbge8 =>
          try simp only [Act.put, List.setIfInBounds_toArray, List.set_cons_zero, List.set_cons_succ, List.getElem_toArray, List.getElem_cons_zero, List.getElem_cons_succ]
          refine wpAnyH_take (i := 9) (v := .pointer (some ⟨J, 1, none⟩)) rfl (by kernel_rfl) (by kernel_rfl) (by kernel_rfl) (fun _ _ _ h => h) (Or.inl ⟨by rfl, ?ybge9⟩) (by assumption) ?rbge9
          case ybge9 => (intro wq hSw; (try simp only [List.getElem_toArray, List.getElem_cons_zero, List.getElem_cons_succ]); go_simp; try with_reducible rfl)
          case rbge9 =>
          try simp only [Act.put, List.setIfInBounds_toArray, List.set_cons_zero, List.set_cons_succ, List.getElem_toArray, List.getElem_cons_zero, List.getElem_cons_succ]
          refine wpAnyH_ready (rs := [10]) (by kernel_rfl) (by simp) ?_
          refine AllReadyH.cons rfl (fun K hK => ?_) AllReadyH.nil
          go_simp
          have hj2 : JAt (wr.drew.setCell ⟨J, 1, none⟩ (.int .i64 (L : Int))) J D L := JAt.set (w := wr.drew) hjd L
          have t2 : Turn (fun k => k = J) wr (wr.drew.setCell ⟨J, 1, none⟩ (.int .i64 (L : Int))) := (Turn.refl (fun k => k = J) wr).drew.setCell (p := ⟨J, 1, none⟩) (fun _ => rfl) _
          refine hK.out _ _ trivial (fun _ => ?_)
          clear hK K
          try simp only [Act.put, List.setIfInBounds_toArray, List.set_cons_zero, List.set_cons_succ, List.getElem_toArray, List.getElem_cons_zero, List.getElem_cons_succ]
          refine wpAnyH_done (by kernel_rfl) ?_ _
          change Exit.inBlock _ _ _ _ (wr.drew.setCell ⟨J, 1, none⟩ (.int .i64 (L : Int)))
          obtain ⟨w2, hw2⟩ : ∃ w2, wr.drew.setCell ⟨J, 1, none⟩ (.int .i64 (L : Int)) = w2 := ⟨_, rfl⟩
          rw [hw2] at hj2 t2 ⊢
          clear hw2 hHeld
          have hmax : lastK ss (j + 1) = L := by rw [lastK, HGS.out, HLK.out, HX.out]; omega
          rw [← hmax] at hj2
          have HJ2 := Lib.hid hj2
          clear hj2 hmx hmax
          go_wp2_with fail
          go_roundw
          case rel => exact ⟨j + 1, by omega, by go_num, HJ2.out, tr.trans t2 (fun _ _ => id)⟩
          case measure => simp [intOf]; omega
      · go_simp
        refine (number_any _ s wr.drew (sec_src HSd.out HL64.out.1) HL64.out.2).mono ?_
        rintro e w1 ⟨rfl, hw1⟩
        rw [num_min, HX.out, hw1]
        clear hw1
        refine hK.out _ _ trivial (fun _ => ?_)
        clear hK K
        try simp only [Act.put, List.setIfInBounds_toArray, List.set_cons_zero, List.set_cons_succ, List.getElem_toArray, List.getElem_cons_zero, List.getElem_cons_succ]
        refine wpAnyH_ready (rs := [4]) (by kernel_rfl) (by simp) ?_
        refine AllReadyH.cons rfl (fun K hK => ?_) AllReadyH.nil
        go_simp
        
        refine hK.out _ _ trivial (fun _ => ?_)
        clear hK K
        try simp only [Act.put, List.setIfInBounds_toArray, List.set_cons_zero, List.set_cons_succ, List.getElem_toArray, List.getElem_cons_zero, List.getElem_cons_succ]
        by_cases hmx : (L : Int) < (x : Int)
        · refine wpAnyH_take (i := 7) (v := .int .i64 (x : Int)) rfl (by kernel_rfl) (by kernel_rfl) (by kernel_rfl) (fun _ _ _ h => h) (Or.inl ⟨by rfl, ?yclt7⟩) (by assumption) ?rclt7
          case yclt7 => (intro wq hSw; (try simp only [List.getElem_toArray, List.getElem_cons_zero, List.getElem_cons_succ]); go_simp; try with_reducible rfl)
          case rclt7 =>
          try simp only [Act.put, List.setIfInBounds_toArray, List.set_cons_zero, List.set_cons_succ, List.getElem_toArray, List.getElem_cons_zero, List.getElem_cons_succ]
          refine wpAnyH_take (i := 8) (v := .pointer (some ⟨J, 0, none⟩)) rfl (by kernel_rfl) (by kernel_rfl) (by kernel_rfl) (fun _ _ _ h => h) (Or.inl ⟨by rfl, ?yclt8⟩) (by assumption) ?rclt8
          case yclt8 => (intro wq hSw; (try simp only [List.getElem_toArray, List.getElem_cons_zero, List.getElem_cons_succ]); go_simp; try with_reducible rfl)
          case rclt8 =>
          try simp only [Act.put, List.setIfInBounds_toArray, List.set_cons_zero, List.set_cons_succ, List.getElem_toArray, List.getElem_cons_zero, List.getElem_cons_succ]
          refine wpAnyH_take (i := 9) (v := .pointer (some ⟨J, 1, none⟩)) rfl (by kernel_rfl) (by kernel_rfl) (by kernel_rfl) (fun _ _ _ h => h) (Or.inl ⟨by rfl, ?yclt9⟩) (by assumption) ?rclt9
          case yclt9 => (intro wq hSw; (try simp only [List.getElem_toArray, List.getElem_cons_zero, List.getElem_cons_succ]); go_simp; try with_reducible rfl)
          case rclt9 =>
          try simp only [Act.put, List.setIfInBounds_toArray, List.set_cons_zero, List.set_cons_succ, List.getElem_toArray, List.getElem_cons_zero, List.getElem_cons_succ]
          refine wpAnyH_ready (rs := [10]) (by kernel_rfl) (by simp) ?_
          refine AllReadyH.cons rfl (fun K hK => ?_) AllReadyH.nil
          go_simp
          have hj2 : JAt (wr.drew.setCell ⟨J, 1, none⟩ (.int .i64 (x : Int))) J D x := JAt.set (w := wr.drew) hjd x
          have t2 : Turn (fun k => k = J) wr (wr.drew.setCell ⟨J, 1, none⟩ (.int .i64 (x : Int))) := (Turn.refl (fun k => k = J) wr).drew.setCell (p := ⟨J, 1, none⟩) (fun _ => rfl) _
          refine hK.out _ _ trivial (fun _ => ?_)
          clear hK K
          try simp only [Act.put, List.setIfInBounds_toArray, List.set_cons_zero, List.set_cons_succ, List.getElem_toArray, List.getElem_cons_zero, List.getElem_cons_succ]
          refine wpAnyH_done (by kernel_rfl) ?_ _
          change Exit.inBlock _ _ _ _ (wr.drew.setCell ⟨J, 1, none⟩ (.int .i64 (x : Int)))
          obtain ⟨w2, hw2⟩ : ∃ w2, wr.drew.setCell ⟨J, 1, none⟩ (.int .i64 (x : Int)) = w2 := ⟨_, rfl⟩
          rw [hw2] at hj2 t2 ⊢
          clear hw2 hHeld
          have hmax : lastK ss (j + 1) = x := by rw [lastK, HGS.out, HLK.out, HX.out]; omega
          rw [← hmax] at hj2
          have HJ2 := Lib.hid hj2
          clear hj2 hmx hmax
          go_wp2_with fail
          go_roundw
          case rel => exact ⟨j + 1, by omega, by go_num, HJ2.out, tr.trans t2 (fun _ _ => id)⟩
          case measure => simp [intOf]; omega
        · refine wpAnyH_take (i := 7) (v := .int .i64 (L : Int)) rfl (by kernel_rfl) (by kernel_rfl) (by kernel_rfl) (fun _ _ _ h => h) (Or.inl ⟨by rfl, ?ycge7⟩) (by assumption) ?rcge7
          case ycge7 => (intro wq hSw; (try simp only [List.getElem_toArray, List.getElem_cons_zero, List.getElem_cons_succ]); go_simp; try with_reducible rfl)
          case rcge7 =>
          try simp only [Act.put, List.setIfInBounds_toArray, List.set_cons_zero, List.set_cons_succ, List.getElem_toArray, List.getElem_cons_zero, List.getElem_cons_succ]
          refine wpAnyH_take (i := 8) (v := .pointer (some ⟨J, 0, none⟩)) rfl (by kernel_rfl) (by kernel_rfl) (by kernel_rfl) (fun _ _ _ h => h) (Or.inl ⟨by rfl, ?ycge8⟩) (by assumption) ?rcge8
          case ycge8 => (intro wq hSw; (try simp only [List.getElem_toArray, List.getElem_cons_zero, List.getElem_cons_succ]); go_simp; try with_reducible rfl)
          case rcge8 =>
          try simp only [Act.put, List.setIfInBounds_toArray, List.set_cons_zero, List.set_cons_succ, List.getElem_toArray, List.getElem_cons_zero, List.getElem_cons_succ]
          refine wpAnyH_take (i := 9) (v := .pointer (some ⟨J, 1, none⟩)) rfl (by kernel_rfl) (by kernel_rfl) (by kernel_rfl) (fun _ _ _ h => h) (Or.inl ⟨by rfl, ?ycge9⟩) (by assumption) ?rcge9
          case ycge9 => (intro wq hSw; (try simp only [List.getElem_toArray, List.getElem_cons_zero, List.getElem_cons_succ]); go_simp; try with_reducible rfl)
          case rcge9 =>
          try simp only [Act.put, List.setIfInBounds_toArray, List.set_cons_zero, List.set_cons_succ, List.getElem_toArray, List.getElem_cons_zero, List.getElem_cons_succ]
          refine wpAnyH_ready (rs := [10]) (by kernel_rfl) (by simp) ?_
          refine AllReadyH.cons rfl (fun K hK => ?_) AllReadyH.nil
          go_simp
          have hj2 : JAt (wr.drew.setCell ⟨J, 1, none⟩ (.int .i64 (L : Int))) J D L := JAt.set (w := wr.drew) hjd L
          have t2 : Turn (fun k => k = J) wr (wr.drew.setCell ⟨J, 1, none⟩ (.int .i64 (L : Int))) := (Turn.refl (fun k => k = J) wr).drew.setCell (p := ⟨J, 1, none⟩) (fun _ => rfl) _
          refine hK.out _ _ trivial (fun _ => ?_)
          clear hK K
          try simp only [Act.put, List.setIfInBounds_toArray, List.set_cons_zero, List.set_cons_succ, List.getElem_toArray, List.getElem_cons_zero, List.getElem_cons_succ]
          refine wpAnyH_done (by kernel_rfl) ?_ _
          change Exit.inBlock _ _ _ _ (wr.drew.setCell ⟨J, 1, none⟩ (.int .i64 (L : Int)))
          obtain ⟨w2, hw2⟩ : ∃ w2, wr.drew.setCell ⟨J, 1, none⟩ (.int .i64 (L : Int)) = w2 := ⟨_, rfl⟩
          rw [hw2] at hj2 t2 ⊢
          clear hw2 hHeld
          have hmax : lastK ss (j + 1) = L := by rw [lastK, HGS.out, HLK.out, HX.out]; omega
          rw [← hmax] at hj2
          have HJ2 := Lib.hid hj2
          clear hj2 hmx hmax
          go_wp2_with fail
          go_roundw
          case rel => exact ⟨j + 1, by omega, by go_num, HJ2.out, tr.trans t2 (fun _ _ => id)⟩
          case measure => simp [intOf]; omega
    · obtain rfl : j = 49 := by omega
      have hnF : ¬ F J := fun hk => by have := HDH.out.2 J hk; have := HJ.out; omega
      have hjh : JH wr F J D d (lastK ss 49) := ⟨HDH.out.turn tr (fun k hk e => hnF (e ▸ hk)), HJA.out, hnF, hbig⟩
      have hst : Step w1 F wr F := ⟨fun _ h => .inl h, (t2.mono (fun _ _ h => h.elim)).trans tr (fun q hq e => by subst e; exfalso; have h1 := HJ.out; have h2 := t2.size; omega)⟩
      have hJge : w1.heap.size ≤ J := by have h1 := HJ.out; have h2 := t2.size; omega
      have HJH := Lib.hid hjh
      clear hjh hnF
      go_wp2_with fail
      refine (begun_any wr g c ss HSL.out H64.out HSR.out hc).mono ?_
      rintro e w4 ⟨t4, hb⟩
      cases hbm : begunM ss with
      | none =>
        rw [hbm] at hb
        have hom := HOM.out
        rw [hbm] at hom
        dsimp only at hom hb
        subst hb
        have HOM2 := Lib.hid hom
        clear hom hbm
        go_wp2_with fail
        go_ret2
        unfold OpenPost
        rw [HOM2.out]
        refine ⟨F, (HJH.out.turn0 t4).dh, hst.trans (Step.of0 F t4), ?_⟩
        rw [if_pos rfl, HSS.out]
        exact ⟨J, rfl, hJge, HJH.out.turn0 t4⟩
      | some l =>
        rw [hbm] at hb
        have hom := HOM.out
        rw [hbm] at hom
        dsimp only at hom hb
        obtain ⟨v, rfl, hpg⟩ := hb
        have HOM2 := Lib.hid hom
        obtain ⟨hl24, hbl⟩ := begunM_ok (fun s hs => (H64.out s hs).2) hbm
        have HPG := Lib.hid hpg
        have HBL := Lib.hid hbl
        obtain ⟨va, vc, rfl, _⟩ := hpg.form
        clear hom hbm hpg hbl
        go_wp2_with fail
        refine (finish_any w4 F _ J D d (lastK ss 49) _ l (HJH.out.turn0 t4) HPG.out (fun k hk => ⟨hk.2, fun hF => by have := HJH.out.dh.2 k hF; have := hk.1; omega⟩) HBL.out hl24 HRO.out).mono ?_
        rintro e w5 ⟨rfl, F5, hj5, hs5⟩
        have hstall := (hst.trans (Step.of0 F t4)).trans hs5
        obtain ⟨rr, hrr⟩ : ∃ rr, (finishM l d).2 = rr := ⟨_, rfl⟩
        rw [hrr]
        have HRR := Lib.hid hrr
        clear hrr
        by_cases hr0 : rr = 0
        · subst hr0
          go_wp2_with fail
          go_ret2
          unfold OpenPost
          rw [HOM2.out]
          refine ⟨F5, hj5.dh, hstall, ?_⟩
          rw [if_pos HRR.out, HSS.out]
          exact ⟨J, rfl, hJge, hj5⟩
        · have hr1 : (rr == 0) = false := by rw [beq_eq_false_iff_ne]; exact hr0
          go_wp2_with fail
          go_ret2
          unfold OpenPost
          rw [HOM2.out]
          refine ⟨F5, hj5.dh, hstall, ?_⟩
          rw [if_neg (by rw [HRR.out]; exact hr0), HRR.out]
          rfl
end Go.Proofs.Ytakmkkgpkbpbkaa
