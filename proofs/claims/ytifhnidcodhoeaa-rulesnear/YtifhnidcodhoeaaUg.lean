/- Own contracts: rule 8. No statement is proved here. -/
import Derived.Test.YtifhnidcodhoeaaUe
namespace Go.Proofs.Ytifhnidcodhoeaa
set_option maxRecDepth 100000
open Go.RowKit
set_option linter.unusedVariables false
set_option linter.unusedSimpArgs false

/-- A row of numbers, by its cells. -/
def NR (w : World) (v : Value) (xs : List Int) : Prop := ∃ a c, v = .slice a xs.length c ∧ xs.length ≤ c ∧ ∀ k, k < xs.length → ∃ g, a = some ⟨g, 0, none⟩ ∧ w.cell? ⟨g, k, none⟩ = some (.int .i64 (xs.getD k 0))
theorem nr_own {w : World} {base : Nat} {v : Value} {xs : List Int} (h : w.ownsRow base 3 1 v xs.length (xs.map (Value.int .i64))) : NR w v xs := by
  rcases h.2 with ⟨rfl, h0⟩ | ⟨g, cap, cur, rfl, _, hg, hnc, _, hcs, ht⟩
  · exact ⟨_, _, by rw [h0], by omega, fun k hk => by omega⟩
  · refine ⟨_, _, rfl, hnc, fun k hk => ⟨g, rfl, ?_⟩⟩
    have hcur : cur.toList = (xs.map (Value.int .i64)) ++ cur.toList.drop (xs.length * 1) := by rw [← ht, List.take_append_drop]
    rw [cell_of_row w g k cur 3 (0, 0) hg, ← Array.getElem?_toList, hcur, List.getElem?_append_left (by simpa using hk)]
    simp [List.getD, hk]
theorem NR.turn {w w' : World} {v : Value} {xs : List Int} (h : NR w v xs) (t : Turn (fun _ => False) w w') : NR w' v xs := by
  obtain ⟨a, c, h1, h2, h3⟩ := h
  refine ⟨a, c, h1, h2, fun k hk => ?_⟩
  obtain ⟨g, e, hc⟩ := h3 k hk
  exact ⟨g, e, (t.cell (p := ⟨g, k, none⟩) (World.block_lt_of_cell? w _ hc) (fun h => h)).trans hc⟩
/-- How many of these numbers are those of regions. -/
def regN (l : List El) (xs : List Int) : Nat := xs.countP (fun i => isB l i [2])
theorem regN_snoc (l : List El) (xs : List Int) (i : Int) : regN l (xs ++ [i]) = regN l xs + (if isB l i [2] = true then 1 else 0) := by
  unfold regN
  rw [List.countP_append, List.countP_singleton]
theorem at_self {l : List El} (hr : Rises l) {y : El} (hy : y ∈ l) : atE l y.id = some y := by
  obtain ⟨k, hk, rfl⟩ := mem_at hy
  refine atE_some hk rfl (fun j hj e => ?_)
  have := hr.get (i := j) (j := k) hj hk
  omega
theorem reg_child {l : List El} (hr : Rises l) (nr : Int) : ∀ m : List El, (∀ y ∈ m, y ∈ l) → regN l ((m.filter (fun x => decide (x.par = nr))).map (·.id)) = m.countP (fun y => y.par == nr && y.kind == 2) := by
  intro m
  induction m with
  | nil => intro _; rfl
  | cons y m ih =>
    intro hm
    have h1 := ih (fun z hz => hm z (List.mem_cons_of_mem _ hz))
    have h2 : isB l y.id [2] = (y.kind == 2) := by
      unfold isB
      rw [at_self hr (hm y (List.mem_cons_self ..))]
      show ([2] : List Int).contains y.kind = _
      rw [List.contains_cons, List.contains_nil, Bool.or_false]
    rw [List.countP_cons]
    by_cases hp : y.par = nr
    · rw [List.filter_cons_of_pos (by simpa using hp), List.map_cons]
      unfold regN at h1 ⊢
      rw [List.countP_cons, h1, h2]
      have : (y.par == nr) = true := by simpa using hp
      rw [this, Bool.true_and]
    · rw [List.filter_cons_of_neg (by simpa using hp), h1]
      have : (y.par == nr) = false := by simpa using hp
      rw [this, Bool.false_and]
      simp
theorem len_child (nr : Int) : ∀ m : List El, (childE m nr).length = m.countP (fun y => y.par == nr && y.kind == 2) + m.countP (fun y => y.par == nr && y.kind != 2) := by
  intro m
  induction m with
  | nil => rfl
  | cons y m ih =>
    rw [List.countP_cons, List.countP_cons]
    unfold childE at ih ⊢
    by_cases hp : y.par = nr
    · rw [List.filter_cons_of_pos (by simpa using hp), List.map_cons, List.length_cons, ih]
      have : (y.par == nr) = true := by simpa using hp
      rw [this, Bool.true_and, Bool.true_and, bne]
      cases y.kind == 2 <;> simp <;> omega
    · rw [List.filter_cons_of_neg (by simpa using hp), ih]
      have : (y.par == nr) = false := by simpa using hp
      rw [this, Bool.false_and, Bool.false_and]
      simp
theorem pos_any {l : List El} {p : El → Bool} : decide (0 < l.countP p) = l.any p := by
  rw [Bool.eq_iff_iff, decide_eq_true_eq, List.any_eq_true, List.countP_pos_iff]
theorem b8_eq {l : List El} (hr : Rises l) (x : El) : b8 l x = (decide (0 < regN l (childE l x.id)) && decide (regN l (childE l x.id) < (childE l x.id).length)) := by
  have h1 : regN l (childE l x.id) = l.countP (fun y => y.par == x.id && y.kind == 2) := reg_child hr x.id l (fun _ h => h)
  rw [h1, len_child, pos_any, b8, regB, othB]
  congr 1
  rw [← pos_any]
  congr 1
  apply propext
  omega
set_option maxHeartbeats 4000000 in
theorem mixed_any (w : World) (v : Value) (l : List El) (x : El) (hv : RowV w v l) (hri : Rises l) (hb : l.length ≤ 1000) : Calls Try.prog 31 #[v, .agg x.vals.toArray] w fun r w' => r = .returned (.bool (b8 l x)) ∧ Turn (fun _ => False) w w' := by
  have HRI := Lib.hid hri
  clear hri
  obtain ⟨la, lc, rfl⟩ := hv.form
  obtain ⟨n, hn⟩ : ∃ n, l.length = n := ⟨_, rfl⟩
  rw [hn] at hv hb
  simp only [hn]
  have HN := Lib.hid hn
  clear hn
  have hbx := box_alloc w 35 x.vals
  obtain ⟨X, hX⟩ : ∃ X, w.heap.size = X := ⟨_, rfl⟩
  obtain ⟨w1, hw1⟩ : ∃ w1, w.alloc (.cells x.vals.toArray 35) = w1 := ⟨_, rfl⟩
  rw [hw1] at hbx
  have hr := hbx.range
  rw [hX] at hr
  obtain ⟨c0, c1, c2, c3, c4, c5, c6, c7, c8, c9⟩ := cellsE hr
  simp only [Nat.zero_add] at c0 c1 c2 c3 c4 c5 c6 c7 c8 c9
  have T1 := Lib.hid hbx.turn
  have HR := Lib.hid hr
  have HV1 := Lib.hid (hv.turn hbx.turn (fun _ _ => id))
  clear hbx hr hv
  have hlen := childE_len l x.id
  rw [HN.out] at hlen
  have HB := Lib.hid (b8_eq HRI.out x)
  obtain ⟨C, hC⟩ : ∃ C, childE l x.id = C := ⟨_, rfl⟩
  rw [hC] at HB hlen
  have HC := Lib.hid hC
  clear hC
  go_enter Try.func31, Try.ntmps31
  go_wp2_with fail
  refine (children_any w1 _ l x.id HV1.out (by rw [HN.out]; exact hb)).mono ?_
  rintro r w2 ⟨u, rfl, ho, t2⟩
  rw [HC.out] at ho
  obtain ⟨ua, uc, rfl, huc, hu⟩ := nr_own ho
  obtain ⟨q, hq⟩ : ∃ q, C.length = q := ⟨_, rfl⟩
  rw [hq] at hlen huc hu
  simp only [hq]
  have HQ := Lib.hid hq
  have HU := Lib.hid hu
  have T2 := Lib.hid t2
  clear ho t2 hq hu
  go_wp2_with fail
  go_loopw [6, 15] (fun cv iv wr => ∃ k : Nat, k ≤ q ∧ iv = .int .i64 (k : Int) ∧ cv = .int .i64 (regN l (C.take k) : Int) ∧ regN l (C.take k) ≤ k ∧ Turn (fun _ => False) w2 wr) (fun _ iv _ => q - (intOf iv).toNat)
  case atStart => exact ⟨0, Nat.zero_le _, rfl, rfl, Nat.le_refl _, Turn.refl _ _⟩
  case round =>
    obtain ⟨k, hk, rfl, rfl, hrg, htr⟩ := hrel
    have HTR := Lib.hid htr
    clear htr
    by_cases hlt : k < q
    · have dk : decide ((k : Int) < (q : Int)) = true := decide_eq_true (by omega)
      have gi : (0 : Int) ≤ (k : Int) ∧ (k : Int) < (q : Int) := by omega
      obtain ⟨g, rfl, hcell⟩ := HU.out k hlt
      have hc := (HTR.out.cell (p := ⟨g, k, none⟩) (World.block_lt_of_cell? w2 _ hcell) (fun h => h)).trans hcell
      have hsn : C.take (k + 1) = C.take k ++ [C.getD k 0] := by
        rw [List.take_succ_eq_append_getElem (by rw [HQ.out]; exact hlt)]
        simp [List.getD, HQ.out, hlt]
      have hst := regN_snoc l (C.take k) (C.getD k 0)
      rw [← hsn] at hst
      obtain ⟨i, hi⟩ : ∃ i, C.getD k 0 = i := ⟨_, rfl⟩
      rw [hi] at hc hst
      obtain ⟨R, hR⟩ : ∃ R, regN l (C.take k) = R := ⟨_, rfl⟩
      rw [hR] at hst hrg
      rw [hR]
      have hic := is_any _ _ _ l i [2] ((HV1.out.turn T2.out (fun _ _ => id)).turn (HTR.out.trans (kr_alloc wr [2]).2 (fun _ _ => id)) (fun _ _ => id)) HRI.out (by rw [HN.out]; exact hb) (kr_alloc wr [2]).1 (by decide)
      obtain ⟨I, hI⟩ : ∃ I, isB l i [2] = I := ⟨_, rfl⟩
      rw [hI] at hic hst
      have HIC := Lib.hid hic
      have HST := Lib.hid hst
      have HT := Lib.hid (kr_alloc wr [2]).2
      clear hcell hsn hst hi hR hic hI
      have hw : wrap64 ((R : Int) + 1) = (R : Int) + 1 := by unfold wrap64; omega
      go_wp2_with fail
      refine HIC.out.mono ?_
      rintro r w8 ⟨rfl, t8⟩
      have T8 := Lib.hid (HTR.out.trans (HT.out.trans t8 (fun _ _ => id)) (fun _ _ => id))
      clear t8
      cases I
      · go_wp2_with fail
        go_roundw
        case rel => exact ⟨k + 1, by omega, by go_num, by rw [HST.out]; rfl, by rw [HST.out]; show R + 0 ≤ k + 1; omega, T8.out⟩
        case measure => simp [intOf]; omega
      · go_wp2_with fail
        go_roundw
        case rel => exact ⟨k + 1, by omega, by go_num, by rw [HST.out]; show _ = Value.int .i64 ((R + 1 : Nat) : Int); go_num, by rw [HST.out]; show R + 1 ≤ k + 1; omega, T8.out⟩
        case measure => simp [intOf]; omega
    · have hke : k = q := by omega
      have dk : decide ((k : Int) < (q : Int)) = false := decide_eq_false (by omega)
      have hto : C.take k = C := List.take_of_length_le (by rw [HQ.out]; omega)
      rw [hto]
      rw [hto] at hrg
      obtain ⟨R, hR⟩ : ∃ R, regN l C = R := ⟨_, rfl⟩
      rw [hR, HQ.out] at HB
      rw [hR]
      have T9 := Lib.hid (T1.out.trans (T2.out.trans HTR.out (fun _ _ => id)) (fun _ _ => id))
      clear hto hR
      by_cases h0 : 0 < R
      · have d0 : decide ((0 : Int) < (R : Int)) = true := decide_eq_true (by omega)
        by_cases h1 : R < q
        · have d1 : decide ((R : Int) < (q : Int)) = true := decide_eq_true (by omega)
          have HE := Lib.hid (show b8 l x = true from by rw [HB.out, decide_eq_true h0, decide_eq_true h1]; rfl)
          go_wp2_with fail
          go_ret
          exact ⟨by rw [HE.out]; rfl, T9.out⟩
        · have d1 : decide ((R : Int) < (q : Int)) = false := decide_eq_false (by omega)
          have HE := Lib.hid (show b8 l x = false from by rw [HB.out, decide_eq_true h0, decide_eq_false h1]; rfl)
          go_wp2_with fail
          go_ret
          exact ⟨by rw [HE.out]; rfl, T9.out⟩
      · have d0 : decide ((0 : Int) < (R : Int)) = false := decide_eq_false (by omega)
        have HE := Lib.hid (show b8 l x = false from by rw [HB.out, decide_eq_false h0]; rfl)
        go_wp2_with fail
        go_ret
        exact ⟨by rw [HE.out]; rfl, T9.out⟩

end Go.Proofs.Ytifhnidcodhoeaa
