/- Own contract: slices.Replace of runs. No statement is proved here. -/
import Derived.Test.YtmhdcpkncaghpaaMid
namespace Go.Proofs.Ytmhdcpkncaghpaa
open Go.RowKit
set_option linter.unusedVariables false
set_option linter.unusedSimpArgs false

theorem drop_len (L : List (Nat × Nat)) (j : Nat) (hj : j ≤ L.length) : ((flat L).drop (j * 2)).length = (L.length - j) * 2 := by rw [List.length_drop, flat_len]; omega

/-- append of runs where there is no room: a new row. -/
theorem append_grown (w : World) (g i sCap vb vc : Nat) (c cv : List Value) (L vs : List (Nat × Nat)) (ty : TypeId) (hg : Holds w g c L) (hv : Holds w vb cv vs) (hi : i ≤ L.length) (hgr : sCap < i + vs.length) (hb : i + vs.length ≤ 100000) :
    ∃ cap W c1, i + vs.length ≤ cap ∧ cap ≤ maxLen ∧ c1.length = cap * 2 ∧ c1.take ((i + vs.length) * 2) = (flat L).take (i * 2) ++ flat vs ∧ RowAt W w.heap.size c1 ∧ Turn (fun _ => False) w W ∧
      (Builtin.append_ #[39, 39] ty #[.slice (some ⟨g, 0, none⟩) i sCap, .slice (some ⟨vb, 0, none⟩) vs.length vc]).run Try.prog w = .ok (.slice (some ⟨w.heap.size, 0, none⟩) (i + vs.length) cap) W := by
  have hl : ((flat L).take (i * 2)).length = i * 2 := by rw [List.length_take, flat_len]; omega
  obtain ⟨i0, hi0, h2, h3, hz⟩ := info43
  have h := run_append_grow (P := Try.prog) w 39 ty 43 i0 _ Try.underlying39 hi0 hz ⟨g, 0, none⟩ i sCap ((flat L).take (i * 2)) (by rw [h2, hl]) (fun j u hj => by
    rw [Addr.add_lit, Nat.zero_add, hg.row.cell]
    rw [List.getElem?_take] at hj
    split at hj
    · exact get_of_take hg.head _ u hj
    · cases hj) ⟨vb, 0, none⟩ vs.length vc (flat vs) (by rw [h2, flat_len]) (fun j u hj => by rw [Addr.add_lit, Nat.zero_add, hv.row.cell]; exact get_of_take hv.head _ u hj) hgr (by omega) (by rw [h3]; exact growslice_fits (by omega) (by omega))
  have hge := grownCap_ge w (i + vs.length) sCap 43
  have hbk : (Builtin.zeroCells (#[.int .i64 0, .int .i64 0] : Array Value) (grownCap w (i + vs.length) sCap 43 - (i + vs.length))).toList.length = (grownCap w (i + vs.length) sCap 43 - (i + vs.length)) * 2 := by rw [zeros_list, List.length_replicate]
  refine ⟨_, _, ((flat L).take (i * 2) ++ flat vs ++ (Builtin.zeroCells (#[.int .i64 0, .int .i64 0] : Array Value) (grownCap w (i + vs.length) sCap 43 - (i + vs.length))).toList), hge, grownCap_le_maxLen w _ _ _ (by simp only [maxLen]; omega), ?_, ?_, ?_, ?_, h⟩
  · rw [List.length_append, List.length_append, hl, flat_len, hbk]; omega
  · rw [List.take_append_of_le_length (by rw [List.length_append, hl, flat_len]; omega), List.take_of_length_le (by rw [List.length_append, hl, flat_len]; omega)]
  · unfold RowAt; show (w.heap.push _)[w.heap.size]? = _; simp [Value.cells]
  · exact ((Turn.refl _ w).drew).alloc _

set_option maxHeartbeats 4000000 in
set_option maxRecDepth 100000 in
/-- Up to the end, where there is room. -/
theorem repl_end (w : World) (g cap i : Nat) (x : Value) (L vs : List (Nat × Nat)) (c : List Value) (hg : Holds w g c L) (hcm : cap ≤ maxLen) (hcs : c.length = cap * 2) (hn : L.length ≤ cap)
    (hx : w.ownsRow 0 43 2 x vs.length (flat vs)) (hb : L.length + vs.length ≤ 10000) (hi : i < L.length) (hroom : i + vs.length ≤ cap) :
    Calls Try.prog 22 #[.slice (some ⟨g, 0, none⟩) L.length cap, .int .i64 (i : Int), .int .i64 (L.length : Int), x] w (ReplPost w (.slice (some ⟨g, 0, none⟩) L.length cap) (L.take i ++ vs ++ L.drop L.length)) := by
  obtain ⟨c1, hc1⟩ : ∃ c1, c1 = put c (i * 2) (flat vs) := ⟨_, rfl⟩
  have hR1 := append_room w g i cap vs.length x c (flat vs) 39 hg.row (src_of hx) hroom (by rw [flat_len]; omega)
  rw [← hc1] at hR1
  have l1 : c1.length = c.length := by rw [hc1]; exact put_length (by rw [flat_len]; omega)
  have ht1 : c1.take ((i + vs.length) * 2) = (flat L).take (i * 2) ++ flat vs := by
    have := put2_take (c := c) (V := flat vs) (D := []) (a := i * 2) (b := (i + vs.length) * 2) (by rw [flat_len]; omega) (by simp; omega)
    rw [put_nil] at this
    simp only [List.length_nil, Nat.add_zero, List.append_nil] at this
    rw [hc1, this, take_of_take hg.head (by omega)]
  obtain ⟨W1, hW1⟩ : ∃ W1, W1 = w.setRow g c1.toArray := ⟨_, rfl⟩
  have hg1 : RowAt W1 g c1 := by rw [hW1]; exact hg.row.set c1
  have hT1 : Turn (fun k => (Value.slice (some ⟨g, 0, none⟩) L.length cap).ownBlock = some k) w W1 := by rw [hW1]; exact turn_setRow (Turn.refl _ w) (fun _ => by rfl) _
  rw [← hW1] at hR1
  have hLL : (L.take i ++ vs ++ L.drop L.length).length = i + vs.length := by simp; omega
  have hd0 : (flat L).drop (L.length * 2) = [] := List.drop_of_length_le (by rw [flat_len]; omega)
  obtain ⟨LL, HL⟩ : ∃ LL, LL = L.take i ++ vs ++ L.drop L.length := ⟨_, rfl⟩
  rw [← HL] at hLL ⊢
  obtain ⟨c2, hc2⟩ : ∃ c2, c2 = put c1 ((i + vs.length) * 2) (List.replicate ((L.length - (i + vs.length)) * 2) (.int .i64 0)) := ⟨_, rfl⟩
  have hR2 : i + vs.length < L.length → (Builtin.clear_ #[39] 0 #[.slice (some ⟨g, (i + vs.length) * 2, none⟩) (L.length - (i + vs.length)) (cap - (i + vs.length))]).run Try.prog W1 = .ok (.tuple #[]) (W1.setRow g c2.toArray) := fun h => by
    rw [hc2]
    exact clear_row W1 g _ _ _ c1 0 hg1 (by omega) (by omega)
  have l2 : i + vs.length < L.length → c2.length = c1.length ∧ c2.take ((i + vs.length) * 2) = c1.take ((i + vs.length) * 2) := fun h => by
    rw [hc2]
    exact ⟨put_length (by rw [List.length_replicate]; omega), put_take_le (Nat.le_refl _) (by omega)⟩
  clear hc1 hc2 hW1
  obtain ⟨n, hnn⟩ : ∃ n, L.length = n := ⟨_, rfl⟩
  obtain ⟨m, hmm⟩ : ∃ m, vs.length = m := ⟨_, rfl⟩
  have HG := Lib.hid hg
  clear hg
  rw [hnn] at hb hi hn hR2 l2 hT1 hd0 HL ⊢
  rw [hmm] at hb hroom hR1 hR2 ht1 hLL l2
  have HX := Lib.hid hx
  have H2 := Lib.hid ht1
  have H3 := Lib.hid HL
  have H4 := Lib.hid hLL
  have H5 := Lib.hid hd0
  have L2 := Lib.hid l2
  have HR2 := Lib.hid hR2
  clear hnn hmm ht1 HL hLL hx hd0 l2 hR2
  have e2 : decide ((i : Int) = (n : Int)) = false := decide_eq_false (by omega)
  have hin : i ≤ n := by omega
  have hc63 : cap ≤ 9223372036854775807 := by simp only [maxLen] at hcm; omega
  go_enter Try.func22, Try.ntmps22
  by_cases hlt : i + m < n
  · have hR2 := HR2 hlt
    have e3 : decide ((i : Int) + (m : Int) < (n : Int)) = true := decide_eq_true (by omega)
    go_wp2_with (at_builtin; refine Lib.wpList_append_run _ rfl _ _ _ _ rfl _ _ rfl rfl _ _ hR1 ?_)
    go_ret
    refine repl_post (hg1.set c2) hcm ?_ H3 H4 (by omega) ?_ (.inl rfl) (turn_setRow hT1 (fun _ => by rfl) _)
    · rw [(L2 hlt).1]; omega
    · rw [(L2 hlt).2, show (flat L).drop (n * 2) = [] from H5, List.append_nil]; exact H2
  · have e3 : decide ((i : Int) + (m : Int) < (n : Int)) = false := decide_eq_false (by omega)
    go_wp2_with (at_builtin; refine Lib.wpList_append_run _ rfl _ _ _ _ rfl _ _ rfl rfl _ _ hR1 ?_)
    go_ret
    refine repl_post hg1 hcm (by omega) H3 H4 (by omega) ?_ (.inl rfl) hT1
    rw [show (flat L).drop (n * 2) = [] from H5, List.append_nil]; exact H2

set_option maxHeartbeats 4000000 in
set_option maxRecDepth 100000 in
/-- Up to the end, where there is no room. -/
theorem repl_end_grow (w : World) (g cap i vb vc : Nat) (L vs : List (Nat × Nat)) (c cv : List Value) (hg : Holds w g c L) (hcm : cap ≤ maxLen) (hn : L.length ≤ cap)
    (hx : Holds w vb cv vs) (hb : L.length + vs.length ≤ 10000) (hi : i < L.length) (hroom : cap < i + vs.length) :
    Calls Try.prog 22 #[.slice (some ⟨g, 0, none⟩) L.length cap, .int .i64 (i : Int), .int .i64 (L.length : Int), .slice (some ⟨vb, 0, none⟩) vs.length vc] w (ReplPost w (.slice (some ⟨g, 0, none⟩) L.length cap) (L.take i ++ vs ++ L.drop L.length)) := by
  obtain ⟨cap', W1, c1, h1, h2, h3, h4, hg1, hT0, hR1⟩ := append_grown w g i cap vb vc c cv L vs 39 hg hx (by omega) hroom (by omega)
  have hLL : (L.take i ++ vs ++ L.drop L.length).length = i + vs.length := by simp; omega
  have hd0 : (flat L).drop (L.length * 2) = [] := List.drop_of_length_le (by rw [flat_len]; omega)
  obtain ⟨LL, HL⟩ : ∃ LL, LL = L.take i ++ vs ++ L.drop L.length := ⟨_, rfl⟩
  rw [← HL] at hLL ⊢
  obtain ⟨G, hG⟩ : ∃ G, w.heap.size = G := ⟨_, rfl⟩
  rw [hG] at hg1 hR1
  obtain ⟨n, hnn⟩ : ∃ n, L.length = n := ⟨_, rfl⟩
  obtain ⟨m, hmm⟩ : ∃ m, vs.length = m := ⟨_, rfl⟩
  have HG := Lib.hid hg
  clear hg
  rw [hnn] at hb hi hn hd0 HL ⊢
  rw [hmm] at hb hroom hR1 h4 hLL h1 ⊢
  have HX := Lib.hid hx
  have H2 := Lib.hid h4
  have H3 := Lib.hid HL
  have H4 := Lib.hid hLL
  have H5 := Lib.hid hd0
  have HS := Lib.hid hG
  clear hnn hmm h4 HL hLL hx hd0 hG
  have e2 : decide ((i : Int) = (n : Int)) = false := decide_eq_false (by omega)
  have hin : i ≤ n := by omega
  have hc63 : cap ≤ 9223372036854775807 := by simp only [maxLen] at hcm; omega
  have e3 : decide ((i : Int) + (m : Int) < (n : Int)) = false := decide_eq_false (by omega)
  go_enter Try.func22, Try.ntmps22
  go_wp2_with (at_builtin; refine Lib.wpList_append_run _ rfl _ _ _ _ rfl _ _ rfl rfl _ _ hR1 ?_)
  go_ret
  refine repl_post hg1 h2 (by omega) H3 H4 (by omega) ?_ (.inr ⟨_, rfl, Nat.le_of_eq HS⟩) (hT0.mono (fun _ _ h => h.elim))
  rw [show (flat L).drop (n * 2) = [] from H5, List.append_nil]; exact H2

end Go.Proofs.Ytmhdcpkncaghpaa
